/-
  The values of attributes in bytes: number, rows.Write, segmentBytes, fourBytes, told, value of package attr, in whatever memory. No condition.
  What value of package attr does, kind by kind, in whatever memory. No condition.
-/
import Derived.Test.YtookpplebikfnaaGreatDoorKHAI
import Derived.Test.YtookpplebikfnaaGreatDoorKHAK
set_option linter.unusedVariables false
set_option linter.unusedSimpArgs false
namespace Go.Proofs.YtookpplebikfnaaGreatDoor
section
set_option maxRecDepth 20000
set_option maxHeartbeats 1000000
open Go.RowKit
def catE {α:Type} (f:α→List UInt8):List α→List UInt8
 | []=>[]
 | x::r=>f x++catE f r
theorem zi8 {α:Type} (f:α→List UInt8):∀ a b:List α,catE f (a++b)=catE f a++catE f b
 | [],_=>rfl
 | x::a,b=>by show f x++catE f (a++b)=f x++catE f a++catE f b;rw [zi8 f a b,List.append_assoc]
theorem zem {α:Type} {f:α→List UInt8} {l:List α} {k:Nat} {x:α} (h:l[k]?=some x):catE f (l.take k)++f x=catE f (l.take (k+1)):=by
 rw [List.take_add_one,h,zi8]
 show _=_++(f x++[])
 rw [List.append_nil]
theorem zfD {α:Type} {f:α→List UInt8} {M:Nat}:∀ {l:List α},(∀ x∈l,(f x).length≤M)→(catE f l).length≤l.length*M
 | [],_=>Nat.zero_le _
 | x::r,h=>by
  have h1:=zfD (l:=r) (fun y hy=>h y (by simp [hy]))
  have h2:=h x (by simp)
  show (f x++catE f r).length≤(r.length+1)*M
  rw [List.length_append,Nat.add_mul]
  omega
def fI (x:Int):List UInt8:=be 4 x.toNat
def fS (x:SgP):List UInt8:=sgB x.sg
def fD (x:Int × List UInt8):List UInt8:=zat x.1 x.2
def fT (x:TnP):List UInt8:=zeJ x.tun
theorem zsz:∀ l:List Int,catE fI l=asB l
 | []=>rfl
 | x::r=>by show fI x++catE fI r=be 4 x.toNat++asB r;rw [zsz r];rfl
theorem zwO:∀ l:List SgP,catE fS l=zlO (l.map SgP.sg)
 | []=>rfl
 | x::r=>by show fS x++catE fS r=sgB x.sg++zlO (r.map SgP.sg);rw [zwO r];rfl
theorem zpX:∀ l:List (Int × List UInt8),catE fD l=clB l
 | []=>rfl
 | x::r=>by show fD x++catE fD r=zat x.1 x.2++clB r;rw [zpX r];rfl
theorem lenI {x:Int} (h:okI x=true):(fI x).length≤4:=by unfold fI;rw [zb5];omega
theorem lenS {x:SgP} (h:okS x=true):(fS x).length≤1022:=by
 unfold okS sgOk at h
 rw [Bool.and_eq_true,decide_eq_true_eq] at h
 unfold fS
 rw [zqM]
 omega
theorem lenD {x:Int × List UInt8} (hw:x.2.length=16) (h:okD x=true):(fD x).length≤4:=by
 unfold fD
 rw [(zkO hw h).2.1]
 omega
theorem zwT {x:Nat} (h:x≤4294967295):x<256^4:=by
 have h2:(256:Nat)^4=4294967296:=by decide
 omega
theorem zpW (x:Nat) (b:Bool):(zcW x b).length=3:=by unfold zcW;rw [zb5]
theorem zml {s:Int} {bs:List UInt8} (h:bs.length=16):(zat s bs).length≤16:=by
 unfold zat
 split
 ·rw [List.length_take];omega
 ·exact Nat.zero_le _
theorem zl0 {k s:Int} {id:List UInt8} (h:zdu k s id=true) (hs:s≤16):id.length≤64:=by
 unfold zdu at h
 split at h
 ·have:=of_decide_eq_true h;omega
 ·split at h
  ·have:=of_decide_eq_true h;omega
  ·split at h
   ·have:=of_decide_eq_true h;omega
   ·split at h
    ·rw [Bool.and_eq_true,decide_eq_true_eq] at h;omega
    ·split at h
     ·have:=of_decide_eq_true h;omega
     ·cases h
theorem lenT {x:TnP} (hw:x.bs.length=16) (h:okT x=true):(fT x).length≤200:=by
 unfold okT zcw at h
 simp only [Bool.and_eq_true,decide_eq_true_eq] at h
 obtain ⟨_,h1,h2⟩:=h
 have hs:x.s≤16:=by
  unfold zaA zde at h1
  rw [Bool.and_eq_true,decide_eq_true_eq] at h1
  have h3:x.s=0∨x.s=4∨x.s=16:=h1.1
  omega
 have hi:x.id.length≤64:=zl0 h2 hs
 have hb:=zml (s:=x.s) hw
 have hR:(zby x.k x.s x.bs x.id).length≤100:=by
  unfold zby zec
  split
  ·simp only [List.length_append,List.length_cons,List.length_nil,List.length_take,List.length_drop];omega
  ·split
   ·simp only [List.length_append,List.length_cons,List.length_nil,zb5];omega
   ·split
    ·simp only [List.length_append];omega
    ·omega
 show (zne x.tun++(zcW x.l.toNat false++zby x.k x.s x.bs x.id)).length≤200
 rw [List.length_append,List.length_append,zpW]
 have:(zne x.tun).length=2:=rfl
 omega
theorem zsm (w:World) (lo hi:Nat) (x:Int) (hm:mI w lo hi x) (hw:wI x) (hh:hi≤w.heap.size) (hok:okI x=true) :
  Calls Tryz.prog 111 #[.int .i64 x] w fun e w'=>∃ v,e = .returned (.tuple #[v,.int .i64 0])∧w'.ownsRow w.heap.size 5 1 v (fI x).length (bvs (fI x))∧Below w.heap.size w w':=by
 have hr:0≤x∧x≤4294967295:=of_decide_eq_true hok
 obtain ⟨y,rfl⟩:∃ y:Nat,x=y:=⟨x.toNat,by omega⟩
 have HC:=hide (zd5 w 0 0 none 0 0 [] (At.nil _ _ _ _) (Nat.zero_le _) (by decide) y 4 (by decide) (by decide) (zwT (by omega)))
 clear hok hr
 go_enter Tryz.func111,Tryz.ntmps111
 go_wp2_with fail
 refine HC.out.mono ?_
 rintro e w1 ⟨v,rfl,ho,hb⟩
 have HO:=hide ho
 clear ho
 go_wp2
 go_ret2
 refine ⟨v,rfl,?_,hb⟩
 unfold fI
 rw [zb5,Int.toNat_natCast]
 exact HO.out
theorem zlT (w:World) (x:Int) (hx:x<0):Calls Tryz.prog 111 #[.int .i64 x] w fun e w'=>e = .returned (.tuple #[.slice none 0 0,.int .i64 5])∧w=w':=by
 have HC:=hide (zrn w none 0 0 x 4 (by decide) (by decide) (.inl hx))
 clear hx
 go_enter Tryz.func111,Tryz.ntmps111
 go_wp2_with fail
 refine HC.out.mono ?_
 rintro e w1 ⟨rfl,rfl⟩
 go_wp2
 go_ret2
 exact ⟨rfl,rfl⟩
theorem eD_any (w:World) (lo hi:Nat) (x:Int × List UInt8) (hm:mD w lo hi x) (hw:wD x) (hh:hi≤w.heap.size) (hok:okD x=true) :
  Calls Tryz.prog 114 #[.agg (zaq x.1 x.2)] w fun e w'=>∃ v,e = .returned (.tuple #[v,.int .i64 0])∧w'.ownsRow w.heap.size 5 1 v (fD x).length (bvs (fD x))∧Below w.heap.size w w':=by
 have RNG:Hid ((w.alloc (.cells (zaq x.1 x.2) 25)).rangeAt w.heap.size 0 (adL x)):=hide (zaj (l:=adL x) (Blk.new w _ _))
 have HWX:x.2.length=16:=hw
 have B0:Hid (Below w.heap.size w (w.alloc (.cells (zaq x.1 x.2) 25))):=hide ((Below.refl _ _).alloc (Nat.le_refl _) _)
 clear hm hok hw
 go_enter Tryz.func114,Tryz.ntmps114
 go_wp2_with (with_reducible refine zbp rfl (.tmp 1) rfl w.heap.size 0 rfl x RNG.out HWX ?_)
 refine (zc8 _ x.1 x.2 HWX).mono ?_
 rintro e w1 ⟨v,rfl,ho,hb⟩
 have HO:=hide (zav ho (show w.heap.size≤_ by simp))
 have W1:=hide (zaa B0.out hb (by simp))
 clear ho hb
 go_wp2
 go_ret2
 exact ⟨v,rfl,HO.out,W1.out⟩
theorem eT_any (w:World) (lo hi:Nat) (x:TnP) (hm:mT w lo hi x) (hw:wT x) (hh:hi≤w.heap.size) (hok:okT x=true) :
  Calls Tryz.prog 117 #[.agg (tnC x)] w fun e w'=>∃ v,e = .returned (.tuple #[v,.int .i64 0])∧w'.ownsRow w.heap.size 5 1 v (fT x).length (bvs (fT x))∧Below w.heap.size w w' :=
 zj8 w x.lf x.k x.l x.s x.bs x.A x.n x.c hi x.id (hm.1.more (Nat.zero_le _) (Nat.le_refl _)) hh hw hm.2 hok
set_option maxHeartbeats 2000000 in
theorem zgs (w:World) (lo hi:Nat) (A:Option Addr) (n c:Nat) (l:List (Int)) (h:RowE inL mI wI w lo hi A n l) (hh:hi≤w.heap.size) (hok:l.all okI=true) (hn:n≤255) :
  Calls Tryz.prog 146 #[.slice A n c,.func (.func 111) #[] #[]] w fun e w'=>∃ v,e = .returned (.tuple #[v,.int .i64 0])∧w'.ownsRow w.heap.size 5 1 v (catE fI l).length (bvs (catE fI l))∧Below w.heap.size w w':=by
 obtain ⟨i0,hi0,hz0,hz1,hz2⟩:=info_parts zbz
 have H:=hide h
 have HXL:=hide h.len
 have HALL:=hide (List.all_eq_true.1 hok)
 clear h hok
 go_enter Tryz.func146,Tryz.ntmps146
 go_wp2_with fail
 go_loopw [6,13] (fun v i wr=>∃ (k c3:Nat) (B:Option Addr),k≤n∧v = .slice B (catE fI (l.take k)).length c3∧i = .int .i64 k∧wr.ownsRow w.heap.size 5 1 (.slice B (catE fI (l.take k)).length c3) (catE fI (l.take k)).length (bvs (catE fI (l.take k)))∧Below w.heap.size w wr) (fun _ i _=>n-(intOf i).toNat)
 case atStart=>exact ⟨0,0,none,Nat.zero_le _,rfl,rfl,World.ownsRow_nil _ _ _ _,Below.refl _ _⟩
 case round =>
  obtain ⟨k,c3,B,hk,rfl,rfl,hown,hbel⟩:=hrel
  have HO:=hide hown
  have WB:=hide hbel
  clear hown hbel
  by_cases hlt:k<n
  ·have Yr:=hide (H.out.below mkI (WB.out.mono hh))
   obtain ⟨b,o,x,rfl,hb1,hb2,hx,hat⟩:=Yr.out.row.at_ (sz:=1) (fun y hy=>zga y) hlt
   have hmem:=List.mem_of_getElem? hx
   have HM:=hide (Yr.out.mem x hmem)
   have HWY:=hide (Yr.out.sz x hmem)
   have HOK:=hide (HALL.out x hmem)
   have HX:=hide hx
   have HAT:=hide hat
   have hh1:=Nat.le_trans hh WB.out.size
   have HLEN:Hid ((catE fI (l.take k)).length≤1020):=hide (by
    have h1:=zfD (f:=fI) (M:=4) (l:=l.take k) (fun y hy=>by have hy:=List.mem_of_mem_take hy;exact lenI (HALL.out y hy))
    rw [List.length_take,Nat.min_eq_left (by rw [HXL.out];exact hk)] at h1
    exact Nat.le_trans h1 (by omega))
   generalize hR:catE fI (l.take k)=R at *
   have HRR:=hide hR
   clear hR
   have ci:wr.cell? ⟨b,o+k*1,none⟩=some (.int .i64 x):=hat 0 _ rfl
   rw [Nat.mul_one] at ci
   clear hx hat hmem Yr
   go_wp2_with fail
   refine (zsm wr lo hi x HM.out HWY.out hh1 HOK.out).mono ?_
   rintro e w3 ⟨v3,rfl,ho3,hb3⟩
   have HO3:=hide (zaR HO.out hb3)
   have WB3:=hide (zaa WB.out hb3 (Nat.le_refl _))
   obtain ⟨A3,c4,rfl,hc3a,hc3b⟩:=zac ho3
   have AT3:=hide (At.own ho3)
   have HCN:=hide (zem (f:=fI) HX.out)
   rw [HRR.out] at HCN
   have hsz:=WB3.out.size
   generalize hcx:fI x=cx at *
   have hbound:R.length+cx.length≤140737488355328:=by have h1:=HLEN.out;have h2:cx.length≤4:=(by rw [← hcx];exact lenI HOK.out);omega
   clear ho3 hb3 hcx hc3a hc3b
   go_wp2_with (at_builtin;go_must (refine zag _ rfl (.tmp 26) (.tmp 27) 36 rfl w.heap.size 5 i0 Tryz.underlying36 hi0 hz0 hz1 hz2 (.slice B R.length c3) R.length R rfl HO3.out _ _ A3 cx.length c4 cx rfl AT3.out hbound hsz ?_);intro v1 w4 hown1 hg4 hat4;rw [← List.length_append,HCN.out] at hown1;have HO1:=hide hown1;have HG4:=hide hg4;clear hown1 hg4 hat4)
   obtain ⟨A4,c5,rfl,_,_⟩:=zac HO1.out
   go_roundw
   case rel=>exact ⟨k+1,c5,A4,by omega,rfl,by go_num,HO1.out,WB3.out.grown HG4.out hsz (fun g hg=>(HO3.out.lt g hg).1)⟩
   case measure=>simp [intOf];omega
  ·have hkn:k=n:=by omega
   subst hkn
   have HT:Hid (l.take k=l):=hide (List.take_of_length_le (by rw [HXL.out];exact Nat.le_refl _))
   rw [HT.out] at HO
   go_wp2
   go_ret2
   refine ⟨.slice B (catE fI l).length c3,?_,HO.out,WB.out⟩
   rw [HT.out];rfl
theorem zi7 {n:Nat} (h:n≤255):Value.int .u8 (n:Int)=bv (UInt8.ofNat n):=by unfold bv;rw [zii (by omega)]
set_option maxHeartbeats 2000000 in
theorem eS_any (w:World) (lo hi:Nat) (x:SgP) (hm:mS w lo hi x) (hw:wS x) (hh:hi≤w.heap.size) (hok:okS x=true) :
  Calls Tryz.prog 109 #[.agg (sgC x)] w fun e w'=>∃ v,e = .returned (.tuple #[v,.int .i64 0])∧w'.ownsRow w.heap.size 5 1 v (fS x).length (bvs (fS x))∧Below w.heap.size w w':=by
 obtain ⟨i0,hi0,hz0,hz1,hz2'⟩:=info_parts zbz
 obtain ⟨st,A,n,c,xs⟩:=x
 have hok':(1≤xs.length∧xs.length≤255)∧xs.all okI=true:=by
  unfold okS sgOk at hok
  rw [Bool.and_eq_true,decide_eq_true_eq] at hok
  exact hok
 have hlen:xs.length=n:=hm.1.len
 have ALL:=hide hok'.2
 have hn:n≤255:=by omega
 have HROW:Hid (∀ y:World,Below w.heap.size w y→RowE inL mI wI y lo hi A n xs):=hide (fun y hy=>⟨hm.1.below (hy.mono hh),fun _ _=>trivial,fun _ _=>trivial⟩)
 have HF:Hid (fS ⟨st,A,n,c,xs⟩=[if st then 1 else 2,UInt8.ofNat n]++asB xs):=hide (by show [if st then 1 else 2,UInt8.ofNat xs.length]++asB xs=_;rw [hlen])
 have HAL:Hid ((asB xs).length=4*n):=hide (by rw [zk9,hlen])
 have c0:(w.alloc (.cells (sgC ⟨st,A,n,c,xs⟩) 82)).cell? ⟨w.heap.size,0,none⟩=some (.bool st):=(Blk.new w _ _).cell 0
 have c1:(w.alloc (.cells (sgC ⟨st,A,n,c,xs⟩) 82)).cell? ⟨w.heap.size,1,none⟩=some (.slice A n c):=(Blk.new w _ _).cell 1
 have B0:Hid (Below w.heap.size w (w.alloc (.cells (sgC ⟨st,A,n,c,xs⟩) 82))):=hide ((Below.refl _ _).alloc (Nat.le_refl _) _)
 have hz:(w.alloc (.cells (sgC ⟨st,A,n,c,xs⟩) 82)).heap.size=w.heap.size+1:=by simp
 have g0:(sgC ⟨st,A,n,c,xs⟩)[0]?=some (.bool st):=rfl
 have g1:(sgC ⟨st,A,n,c,xs⟩)[1]?=some (.slice A n c):=rfl
 clear hm hok hok' hlen
 cases st
 ·go_enter Tryz.func109,Tryz.ntmps109
  go_wp2_with fail
  have W2:=hide (B0.out.alloc (by rw [hz];omega) (.cells #[.int .u8 2,.int .u8 (n:Int)] 5))
  have HH:Hid (((w.alloc (.cells (sgC ⟨false,A,n,c,xs⟩) 82)).alloc (.cells #[.int .u8 2,.int .u8 (n:Int)] 5)).ownsRow w.heap.size 5 1 (.slice (some ⟨w.heap.size+1,0,none⟩) 2 2) 2 (bvs [2,UInt8.ofNat n])):=hide (zcd (by have hB:=Blk.new (w.alloc (.cells (sgC ⟨false,A,n,c,xs⟩) 82)) 5 #[.int .u8 2,.int .u8 (n:Int)];rw [hz] at hB;exact hB) (Nat.le_succ _) (Nat.le_refl _) (by unfold maxLen;decide) rfl (by rw [zi7 hn];rfl))
  have hz2:w.heap.size≤((w.alloc (.cells (sgC ⟨false,A,n,c,xs⟩) 82)).alloc (.cells #[.int .u8 2,.int .u8 (n:Int)] 5)).heap.size:=W2.out.size
  generalize (w.alloc (.cells (sgC ⟨false,A,n,c,xs⟩) 82)).alloc (.cells #[.int .u8 2,.int .u8 (n:Int)] 5)=w2 at *
  refine (zgs w2 lo hi A n c xs (HROW.out w2 W2.out) (Nat.le_trans hh hz2) ALL.out hn).mono ?_
  rw [zsz,HAL.out]
  rintro e w3 ⟨v3,rfl,ho3,hb3⟩
  obtain ⟨A3,c3,rfl,_,_⟩:=zac ho3
  have AT3:=hide (At.own ho3)
  have HO3:=hide (zaR HH.out hb3)
  have W3:=hide (zaa W2.out hb3 (Nat.le_refl _))
  have hz3:=Nat.le_trans hz2 hb3.size
  clear ho3 hb3 HH W2
  go_wp2_with (at_builtin;go_must (refine zag _ rfl (.tmp 22) (.tmp 23) 36 rfl w.heap.size 5 i0 Tryz.underlying36 hi0 hz0 hz1 hz2' (.slice (some ⟨w.heap.size+1,0,none⟩) 2 2) 2 [2,UInt8.ofNat n] rfl HO3.out _ _ A3 (4*n) c3 (asB xs) rfl AT3.out (by omega) hz3 ?_);intro v4 w4 hown4 hg4 hat4;have HO4:=hide hown4;have HG4:=hide hg4;clear hown4 hg4 hat4)
  go_ret2
  refine ⟨v4,rfl,?_,W3.out.grown HG4.out hz3 (fun g hg=>(HO3.out.lt g hg).1)⟩
  rw [HF.out,List.length_append,HAL.out]
  exact HO4.out
 ·go_enter Tryz.func109,Tryz.ntmps109
  go_wp2_with fail
  have W2:=hide (B0.out.alloc (by rw [hz];omega) (.cells #[.int .u8 1,.int .u8 (n:Int)] 5))
  have HH:Hid (((w.alloc (.cells (sgC ⟨true,A,n,c,xs⟩) 82)).alloc (.cells #[.int .u8 1,.int .u8 (n:Int)] 5)).ownsRow w.heap.size 5 1 (.slice (some ⟨w.heap.size+1,0,none⟩) 2 2) 2 (bvs [1,UInt8.ofNat n])):=hide (zcd (by have hB:=Blk.new (w.alloc (.cells (sgC ⟨true,A,n,c,xs⟩) 82)) 5 #[.int .u8 1,.int .u8 (n:Int)];rw [hz] at hB;exact hB) (Nat.le_succ _) (Nat.le_refl _) (by unfold maxLen;decide) rfl (by rw [zi7 hn];rfl))
  have hz2:w.heap.size≤((w.alloc (.cells (sgC ⟨true,A,n,c,xs⟩) 82)).alloc (.cells #[.int .u8 1,.int .u8 (n:Int)] 5)).heap.size:=W2.out.size
  generalize (w.alloc (.cells (sgC ⟨true,A,n,c,xs⟩) 82)).alloc (.cells #[.int .u8 1,.int .u8 (n:Int)] 5)=w2 at *
  refine (zgs w2 lo hi A n c xs (HROW.out w2 W2.out) (Nat.le_trans hh hz2) ALL.out hn).mono ?_
  rw [zsz,HAL.out]
  rintro e w3 ⟨v3,rfl,ho3,hb3⟩
  obtain ⟨A3,c3,rfl,_,_⟩:=zac ho3
  have AT3:=hide (At.own ho3)
  have HO3:=hide (zaR HH.out hb3)
  have W3:=hide (zaa W2.out hb3 (Nat.le_refl _))
  have hz3:=Nat.le_trans hz2 hb3.size
  clear ho3 hb3 HH W2
  go_wp2_with (at_builtin;go_must (refine zag _ rfl (.tmp 22) (.tmp 23) 36 rfl w.heap.size 5 i0 Tryz.underlying36 hi0 hz0 hz1 hz2' (.slice (some ⟨w.heap.size+1,0,none⟩) 2 2) 2 [1,UInt8.ofNat n] rfl HO3.out _ _ A3 (4*n) c3 (asB xs) rfl AT3.out (by omega) hz3 ?_);intro v4 w4 hown4 hg4 hat4;have HO4:=hide hown4;have HG4:=hide hg4;clear hown4 hg4 hat4)
  go_ret2
  refine ⟨v4,rfl,?_,W3.out.grown HG4.out hz3 (fun g hg=>(HO3.out.lt g hg).1)⟩
  rw [HF.out,List.length_append,HAL.out]
  exact HO4.out
set_option maxHeartbeats 2000000 in
theorem zqU (w:World) (lo hi:Nat) (A:Option Addr) (n c:Nat) (l:List (SgP)) (h:RowE sgL mS wS w lo hi A n l) (hh:hi≤w.heap.size) (hok:l.all okS=true) (hn:n≤16) :
  Calls Tryz.prog 108 #[.slice A n c,.func (.func 109) #[] #[]] w fun e w'=>∃ v,e = .returned (.tuple #[v,.int .i64 0])∧w'.ownsRow w.heap.size 5 1 v (catE fS l).length (bvs (catE fS l))∧Below w.heap.size w w':=by
 obtain ⟨i0,hi0,hz0,hz1,hz2⟩:=info_parts zbz
 have H:=hide h
 have HXL:=hide h.len
 have HALL:=hide (List.all_eq_true.1 hok)
 clear h hok
 go_enter Tryz.func108,Tryz.ntmps108
 go_wp2_with fail
 go_loopw [6,13] (fun v i wr=>∃ (k c3:Nat) (B:Option Addr),k≤n∧v = .slice B (catE fS (l.take k)).length c3∧i = .int .i64 k∧wr.ownsRow w.heap.size 5 1 (.slice B (catE fS (l.take k)).length c3) (catE fS (l.take k)).length (bvs (catE fS (l.take k)))∧Below w.heap.size w wr) (fun _ i _=>n-(intOf i).toNat)
 case atStart=>exact ⟨0,0,none,Nat.zero_le _,rfl,rfl,World.ownsRow_nil _ _ _ _,Below.refl _ _⟩
 case round =>
  obtain ⟨k,c3,B,hk,rfl,rfl,hown,hbel⟩:=hrel
  have HO:=hide hown
  have WB:=hide hbel
  clear hown hbel
  by_cases hlt:k<n
  ·have Yr:=hide (H.out.below mkS (WB.out.mono hh))
   obtain ⟨b,o,x,rfl,hb1,hb2,hx,hat⟩:=Yr.out.row.at_ (sz:=2) (fun y hy=>zd4 y) hlt
   have hmem:=List.mem_of_getElem? hx
   have HM:=hide (Yr.out.mem x hmem)
   have HWY:=hide (Yr.out.sz x hmem)
   have HOK:=hide (HALL.out x hmem)
   have HX:=hide hx
   have HAT:=hide hat
   have hh1:=Nat.le_trans hh WB.out.size
   have HLEN:Hid ((catE fS (l.take k)).length≤16352):=hide (by
    have h1:=zfD (f:=fS) (M:=1022) (l:=l.take k) (fun y hy=>by have hy:=List.mem_of_mem_take hy;exact lenS (HALL.out y hy))
    rw [List.length_take,Nat.min_eq_left (by rw [HXL.out];exact hk)] at h1
    exact Nat.le_trans h1 (by omega))
   generalize hR:catE fS (l.take k)=R at *
   have HRR:=hide hR
   clear hR
   have HWX:True:=HWY.out
   have NEW:=hide (Blk.new wr 82 #[.bool false,.slice none 0 0])
   clear hx hat hmem Yr
   go_wp2_with (first
    | ((with_reducible refine za3 ?_ (.tmp 15) rfl b (o+k*2) rfl x HAT.out ?_);· rfl)
    | (refine zck rfl (.tmp 8) (.tmp 16) rfl wr.heap.size rfl x rfl NEW.out rfl ?_;intro w2 hb2 hg2;have B2:=hide hb2;have W2:Hid (Below wr.heap.size wr w2):=hide (((Below.refl _ _).alloc (Nat.le_refl _) _).grown hg2 (by simp) (by simp));clear hb2 hg2;refine Hid.out ?_))
   refine hide ?_
   have HO2:=hide (zaR HO.out W2.out)
   have WB2:=hide (zaa WB.out W2.out (Nat.le_refl _))
   have HM2:=hide (mkS _ _ _ _ _ (fun p _ hp=>W2.out.cell (p:=p) (by omega)) HM.out)
   have hh2:=Nat.le_trans hh1 W2.out.size
   have RNG2:Hid (w2.rangeAt wr.heap.size 0 (sgL x)):=hide (zaj (l:=sgL x) B2.out)
   clear NEW
   go_wp2_with ((with_reducible refine za3 ?_ (.tmp 8) rfl wr.heap.size 0 rfl x RNG2.out ?_);· rfl)
   refine (eS_any w2 lo hi x HM2.out HWY.out hh2 HOK.out).mono ?_
   rintro e w3 ⟨v3,rfl,ho3,hb3⟩
   have HO3:=hide (zaR HO2.out hb3)
   have WB3:=hide (zaa WB2.out hb3 (Nat.le_refl _))
   obtain ⟨A3,c4,rfl,hc3a,hc3b⟩:=zac ho3
   have AT3:=hide (At.own ho3)
   have HCN:=hide (zem (f:=fS) HX.out)
   rw [HRR.out] at HCN
   have hsz:=WB3.out.size
   generalize hcx:fS x=cx at *
   have hbound:R.length+cx.length≤140737488355328:=by have h1:=HLEN.out;have h2:cx.length≤1022:=(by rw [← hcx];exact lenS HOK.out);omega
   clear ho3 hb3 hcx hc3a hc3b
   go_wp2_with (at_builtin;go_must (refine zag _ rfl (.tmp 26) (.tmp 27) 36 rfl w.heap.size 5 i0 Tryz.underlying36 hi0 hz0 hz1 hz2 (.slice B R.length c3) R.length R rfl HO3.out _ _ A3 cx.length c4 cx rfl AT3.out hbound hsz ?_);intro v1 w4 hown1 hg4 hat4;rw [← List.length_append,HCN.out] at hown1;have HO1:=hide hown1;have HG4:=hide hg4;clear hown1 hg4 hat4)
   obtain ⟨A4,c5,rfl,_,_⟩:=zac HO1.out
   go_roundw
   case rel=>exact ⟨k+1,c5,A4,by omega,rfl,by go_num,HO1.out,WB3.out.grown HG4.out hsz (fun g hg=>(HO3.out.lt g hg).1)⟩
   case measure=>simp [intOf];omega
  ·have hkn:k=n:=by omega
   subst hkn
   have HT:Hid (l.take k=l):=hide (List.take_of_length_le (by rw [HXL.out];exact Nat.le_refl _))
   rw [HT.out] at HO
   go_wp2
   go_ret2
   refine ⟨.slice B (catE fS l).length c3,?_,HO.out,WB.out⟩
   rw [HT.out];rfl
set_option maxHeartbeats 2000000 in
theorem zlC (w:World) (lo hi:Nat) (A:Option Addr) (n c:Nat) (l:List (Int × List UInt8)) (h:RowE adL mD wD w lo hi A n l) (hh:hi≤w.heap.size) (hok:l.all okD=true) (hn:n≤32) :
  Calls Tryz.prog 113 #[.slice A n c,.func (.func 114) #[] #[]] w fun e w'=>∃ v,e = .returned (.tuple #[v,.int .i64 0])∧w'.ownsRow w.heap.size 5 1 v (catE fD l).length (bvs (catE fD l))∧Below w.heap.size w w':=by
 obtain ⟨i0,hi0,hz0,hz1,hz2⟩:=info_parts zbz
 have H:=hide h
 have HXL:=hide h.len
 have HALL:=hide (List.all_eq_true.1 hok)
 clear h hok
 go_enter Tryz.func113,Tryz.ntmps113
 go_wp2_with fail
 go_loopw [6,13] (fun v i wr=>∃ (k c3:Nat) (B:Option Addr),k≤n∧v = .slice B (catE fD (l.take k)).length c3∧i = .int .i64 k∧wr.ownsRow w.heap.size 5 1 (.slice B (catE fD (l.take k)).length c3) (catE fD (l.take k)).length (bvs (catE fD (l.take k)))∧Below w.heap.size w wr) (fun _ i _=>n-(intOf i).toNat)
 case atStart=>exact ⟨0,0,none,Nat.zero_le _,rfl,rfl,World.ownsRow_nil _ _ _ _,Below.refl _ _⟩
 case round =>
  obtain ⟨k,c3,B,hk,rfl,rfl,hown,hbel⟩:=hrel
  have HO:=hide hown
  have WB:=hide hbel
  clear hown hbel
  by_cases hlt:k<n
  ·have Yr:=hide (H.out.below mkD (WB.out.mono hh))
   obtain ⟨b,o,x,rfl,hb1,hb2,hx,hat⟩:=Yr.out.row.at_ (sz:=17) (fun y hy=>zfm (Yr.out.sz y hy)) hlt
   have hmem:=List.mem_of_getElem? hx
   have HM:=hide (Yr.out.mem x hmem)
   have HWY:=hide (Yr.out.sz x hmem)
   have HOK:=hide (HALL.out x hmem)
   have HX:=hide hx
   have HAT:=hide hat
   have hh1:=Nat.le_trans hh WB.out.size
   have HLEN:Hid ((catE fD (l.take k)).length≤128):=hide (by
    have h1:=zfD (f:=fD) (M:=4) (l:=l.take k) (fun y hy=>by have hy:=List.mem_of_mem_take hy;exact lenD (H.out.sz y hy) (HALL.out y hy))
    rw [List.length_take,Nat.min_eq_left (by rw [HXL.out];exact hk)] at h1
    exact Nat.le_trans h1 (by omega))
   generalize hR:catE fD (l.take k)=R at *
   have HRR:=hide hR
   clear hR
   have HWX:x.2.length=16:=HWY.out
   have NEW:=hide (Blk.new wr 25 zAdr)
   clear hx hat hmem Yr
   go_wp2_with (first
    | ((with_reducible refine zbp ?_ (.tmp 15) rfl b (o+k*17) rfl x HAT.out HWX ?_);· rfl)
    | (refine zaB rfl (.tmp 8) (.tmp 16) rfl wr.heap.size rfl (s:=x.1) (bs:=x.2) rfl HWX NEW.out rfl ?_;intro w2 hb2 hg2;have B2:=hide hb2;have W2:Hid (Below wr.heap.size wr w2):=hide (((Below.refl _ _).alloc (Nat.le_refl _) _).grown hg2 (by simp) (by simp));clear hb2 hg2;refine Hid.out ?_))
   refine hide ?_
   have HO2:=hide (zaR HO.out W2.out)
   have WB2:=hide (zaa WB.out W2.out (Nat.le_refl _))
   have HM2:=hide (mkD _ _ _ _ _ (fun p _ hp=>W2.out.cell (p:=p) (by omega)) HM.out)
   have hh2:=Nat.le_trans hh1 W2.out.size
   have RNG2:Hid (w2.rangeAt wr.heap.size 0 (adL x)):=hide (zaj (l:=adL x) B2.out)
   clear NEW
   go_wp2_with ((with_reducible refine zbp ?_ (.tmp 8) rfl wr.heap.size 0 rfl x RNG2.out HWX ?_);· rfl)
   refine (eD_any w2 lo hi x HM2.out HWY.out hh2 HOK.out).mono ?_
   rintro e w3 ⟨v3,rfl,ho3,hb3⟩
   have HO3:=hide (zaR HO2.out hb3)
   have WB3:=hide (zaa WB2.out hb3 (Nat.le_refl _))
   obtain ⟨A3,c4,rfl,hc3a,hc3b⟩:=zac ho3
   have AT3:=hide (At.own ho3)
   have HCN:=hide (zem (f:=fD) HX.out)
   rw [HRR.out] at HCN
   have hsz:=WB3.out.size
   generalize hcx:fD x=cx at *
   have hbound:R.length+cx.length≤140737488355328:=by have h1:=HLEN.out;have h2:cx.length≤4:=(by rw [← hcx];exact lenD HWX HOK.out);omega
   clear ho3 hb3 hcx hc3a hc3b
   go_wp2_with (at_builtin;go_must (refine zag _ rfl (.tmp 26) (.tmp 27) 36 rfl w.heap.size 5 i0 Tryz.underlying36 hi0 hz0 hz1 hz2 (.slice B R.length c3) R.length R rfl HO3.out _ _ A3 cx.length c4 cx rfl AT3.out hbound hsz ?_);intro v1 w4 hown1 hg4 hat4;rw [← List.length_append,HCN.out] at hown1;have HO1:=hide hown1;have HG4:=hide hg4;clear hown1 hg4 hat4)
   obtain ⟨A4,c5,rfl,_,_⟩:=zac HO1.out
   go_roundw
   case rel=>exact ⟨k+1,c5,A4,by omega,rfl,by go_num,HO1.out,WB3.out.grown HG4.out hsz (fun g hg=>(HO3.out.lt g hg).1)⟩
   case measure=>simp [intOf];omega
  ·have hkn:k=n:=by omega
   subst hkn
   have HT:Hid (l.take k=l):=hide (List.take_of_length_le (by rw [HXL.out];exact Nat.le_refl _))
   rw [HT.out] at HO
   go_wp2
   go_ret2
   refine ⟨.slice B (catE fD l).length c3,?_,HO.out,WB.out⟩
   rw [HT.out];rfl
set_option maxHeartbeats 2000000 in
theorem zlB (w:World) (lo hi:Nat) (A:Option Addr) (n c:Nat) (l:List (TnP)) (h:RowE tnL mT wT w lo hi A n l) (hh:hi≤w.heap.size) (hok:l.all okT=true) (hn:n≤1) :
  Calls Tryz.prog 116 #[.slice A n c,.func (.func 117) #[] #[]] w fun e w'=>∃ v,e = .returned (.tuple #[v,.int .i64 0])∧w'.ownsRow w.heap.size 5 1 v (catE fT l).length (bvs (catE fT l))∧Below w.heap.size w w':=by
 obtain ⟨i0,hi0,hz0,hz1,hz2⟩:=info_parts zbz
 have H:=hide h
 have HXL:=hide h.len
 have HALL:=hide (List.all_eq_true.1 hok)
 clear h hok
 go_enter Tryz.func116,Tryz.ntmps116
 go_wp2_with fail
 go_loopw [6,13] (fun v i wr=>∃ (k c3:Nat) (B:Option Addr),k≤n∧v = .slice B (catE fT (l.take k)).length c3∧i = .int .i64 k∧wr.ownsRow w.heap.size 5 1 (.slice B (catE fT (l.take k)).length c3) (catE fT (l.take k)).length (bvs (catE fT (l.take k)))∧Below w.heap.size w wr) (fun _ i _=>n-(intOf i).toNat)
 case atStart=>exact ⟨0,0,none,Nat.zero_le _,rfl,rfl,World.ownsRow_nil _ _ _ _,Below.refl _ _⟩
 case round =>
  obtain ⟨k,c3,B,hk,rfl,rfl,hown,hbel⟩:=hrel
  have HO:=hide hown
  have WB:=hide hbel
  clear hown hbel
  by_cases hlt:k<n
  ·have Yr:=hide (H.out.below mkT (WB.out.mono hh))
   obtain ⟨b,o,x,rfl,hb1,hb2,hx,hat⟩:=Yr.out.row.at_ (sz:=21) (fun y hy=>zfX (Yr.out.sz y hy)) hlt
   have hmem:=List.mem_of_getElem? hx
   have HM:=hide (Yr.out.mem x hmem)
   have HWY:=hide (Yr.out.sz x hmem)
   have HOK:=hide (HALL.out x hmem)
   have HX:=hide hx
   have HAT:=hide hat
   have hh1:=Nat.le_trans hh WB.out.size
   have HLEN:Hid ((catE fT (l.take k)).length≤0):=hide (by
    obtain rfl:k=0:=by omega
    exact Nat.le_refl _)
   generalize hR:catE fT (l.take k)=R at *
   have HRR:=hide hR
   clear hR
   have HWX:x.bs.length=16:=HWY.out
   have NEW:=hide (Blk.new wr 77 zTun)
   clear hx hat hmem Yr
   go_wp2_with (first
    | ((with_reducible refine zbo ?_ (.tmp 15) rfl b (o+k*21) rfl x HAT.out HWX ?_);· rfl)
    | (refine zcX rfl (.tmp 8) (.tmp 16) rfl wr.heap.size rfl x rfl HWX NEW.out rfl ?_;intro w2 hb2 hg2;have B2:=hide hb2;have W2:Hid (Below wr.heap.size wr w2):=hide (((Below.refl _ _).alloc (Nat.le_refl _) _).grown hg2 (by simp) (by simp));clear hb2 hg2;refine Hid.out ?_))
   refine hide ?_
   have HO2:=hide (zaR HO.out W2.out)
   have WB2:=hide (zaa WB.out W2.out (Nat.le_refl _))
   have HM2:=hide (mkT _ _ _ _ _ (fun p _ hp=>W2.out.cell (p:=p) (by omega)) HM.out)
   have hh2:=Nat.le_trans hh1 W2.out.size
   have RNG2:Hid (w2.rangeAt wr.heap.size 0 (tnL x)):=hide (zaj (l:=tnL x) B2.out)
   clear NEW
   go_wp2_with ((with_reducible refine zbo ?_ (.tmp 8) rfl wr.heap.size 0 rfl x RNG2.out HWX ?_);· rfl)
   refine (eT_any w2 lo hi x HM2.out HWY.out hh2 HOK.out).mono ?_
   rintro e w3 ⟨v3,rfl,ho3,hb3⟩
   have HO3:=hide (zaR HO2.out hb3)
   have WB3:=hide (zaa WB2.out hb3 (Nat.le_refl _))
   obtain ⟨A3,c4,rfl,hc3a,hc3b⟩:=zac ho3
   have AT3:=hide (At.own ho3)
   have HCN:=hide (zem (f:=fT) HX.out)
   rw [HRR.out] at HCN
   have hsz:=WB3.out.size
   generalize hcx:fT x=cx at *
   have hbound:R.length+cx.length≤140737488355328:=by have h1:=HLEN.out;have h2:cx.length≤200:=(by rw [← hcx];exact lenT HWX HOK.out);omega
   clear ho3 hb3 hcx hc3a hc3b
   go_wp2_with (at_builtin;go_must (refine zag _ rfl (.tmp 26) (.tmp 27) 36 rfl w.heap.size 5 i0 Tryz.underlying36 hi0 hz0 hz1 hz2 (.slice B R.length c3) R.length R rfl HO3.out _ _ A3 cx.length c4 cx rfl AT3.out hbound hsz ?_);intro v1 w4 hown1 hg4 hat4;rw [← List.length_append,HCN.out] at hown1;have HO1:=hide hown1;have HG4:=hide hg4;clear hown1 hg4 hat4)
   obtain ⟨A4,c5,rfl,_,_⟩:=zac HO1.out
   go_roundw
   case rel=>exact ⟨k+1,c5,A4,by omega,rfl,by go_num,HO1.out,WB3.out.grown HG4.out hsz (fun g hg=>(HO3.out.lt g hg).1)⟩
   case measure=>simp [intOf];omega
  ·have hkn:k=n:=by omega
   subst hkn
   have HT:Hid (l.take k=l):=hide (List.take_of_length_le (by rw [HXL.out];exact Nat.le_refl _))
   rw [HT.out] at HO
   go_wp2
   go_ret2
   refine ⟨.slice B (catE fT l).length c3,?_,HO.out,WB.out⟩
   rw [HT.out];rfl
open Go.RowKit
theorem zdY (w:World) (A:Option Addr) (n c:Nat) (hn:0<n):Calls Tryz.prog 110 #[.slice A n c,.int .i64 0] w fun e w'=>e = .returned (.tuple #[.slice A n c,.bool true])∧w=w':=by
 have hnI:(0:Int)<(n:Int):=by omega
 go_enter Tryz.func110,Tryz.ntmps110
 go_wp2
 go_ret2
 exact ⟨rfl,rfl⟩
theorem zgl (w:World) (A:Option Addr) (c:Nat):Calls Tryz.prog 110 #[.slice A 0 c,.int .i64 0] w fun e w'=>e = .returned (.tuple #[.slice A 0 c,.bool false])∧w=w':=by
 go_enter Tryz.func110,Tryz.ntmps110
 go_wp2
 go_ret2
 exact ⟨rfl,rfl⟩
theorem zqz (w:World) (A:Option Addr) (n c:Nat):Calls Tryz.prog 110 #[.slice A n c,.int .i64 5] w fun e w'=>e = .returned (.tuple #[.slice A n c,.bool false])∧w=w':=by
 go_enter Tryz.func110,Tryz.ntmps110
 go_wp2
 go_ret2
 exact ⟨rfl,rfl⟩
def zaL (w:World) (b:List UInt8) (there:Bool) (e:Ending) (w':World):Prop :=
 ∃ v,e = .returned (.tuple #[v,.bool there])∧(there=true→w'.ownsRow w.heap.size 5 1 v b.length (bvs b))∧Below w.heap.size w w'
theorem zaL.no {w w':World} {b:List UInt8} {v:Value} (hb:Below w.heap.size w w'):zaL w b false (.returned (.tuple #[v,.bool false])) w':=⟨v,rfl,(fun h=>by cases h),hb⟩
theorem zaL.yes {w w':World} {b:List UInt8} {v:Value} (ho:w'.ownsRow w.heap.size 5 1 v b.length (bvs b)) (hb:Below w.heap.size w w'):zaL w b true (.returned (.tuple #[v,.bool true])) w':=⟨v,rfl,fun _=>ho,hb⟩
section
variable (w:World) (lo hi:Nat) (p:AtP) (h:zar w lo hi p) (hh:hi≤w.heap.size)
include h hh
theorem zqp (O:Nat) (ho:p.o=O) (hO:O≤255):Calls Tryz.prog 74 #[.agg (attC p),.int .i64 1] w (zaL w [UInt8.ofNat O] true):=by
 have S0:=hide (AtS.start h hh)
 have HOB:=h.ob
 have k0_0:=S0.out.c0
 have k0_1:=S0.out.c1
 have k0_2:=S0.out.c2
 have k0_3:=S0.out.c3
 have k0_21:=S0.out.c21
 have k0_22:=S0.out.c22
 have k0_23:=S0.out.c23
 have hsz0:(w.alloc (.cells (attC p) 30)).heap.size=w.heap.size+1:=by simp
 rw [ho] at k0_0
 clear h
 go_enter Tryz.func74,Tryz.ntmps74
 go_wp2
 go_ret2
 have B1:=S0.out.bl.alloc (by rw [hsz0];omega) (.cells #[.int .u8 (O:Int)] 5)
 refine zaL.yes (zcd (cs:=#[.int .u8 (O:Int)]) (by have hB:=Blk.new (w.alloc (.cells (attC p) 30)) 5 #[.int .u8 (O:Int)];rw [hsz0] at hB;exact hB) (Nat.le_succ _) (Nat.le_refl _) (by unfold maxLen;decide) rfl (by rw [zi7 hO];rfl)) B1
theorem zvx (hn:p.path.length≤16) (hok:p.path.all okS=true):Calls Tryz.prog 74 #[.agg (attC p),.int .i64 2] w (zaL w (zlO (p.path.map SgP.sg)) true):=by
 have S0:=hide (AtS.start h hh)
 have HOB:=h.ob
 have k0_0:=S0.out.c0
 have k0_1:=S0.out.c1
 have k0_2:=S0.out.c2
 have k0_3:=S0.out.c3
 have k0_21:=S0.out.c21
 have k0_22:=S0.out.c22
 have k0_23:=S0.out.c23
 have hsz0:(w.alloc (.cells (attC p) 30)).heap.size=w.heap.size+1:=by simp
 have hl:=h.path.len
 clear h
 go_enter Tryz.func74,Tryz.ntmps74
 go_wp2_with fail
 refine (zqU _ lo hi p.pA p.pn p.pc p.path S0.out.at_.path S0.out.hx hok (by omega)).mono ?_
 rw [zwO]
 rintro e w1 ⟨v,rfl,ho,hb⟩
 have S1:=hide (zaa S0.out.bl hb (by simp))
 have HO:=hide (zav ho (show w.heap.size≤_ by simp))
 clear ho hb
 go_wp2
 go_ret2
 exact zaL.yes HO.out S1.out
theorem zqk (hm:0≤p.med∧p.med≤4294967295):Calls Tryz.prog 74 #[.agg (attC p),.int .i64 4] w (zaL w (be 4 p.med.toNat) true):=by
 have S0:=hide (AtS.start h hh)
 have HOB:=h.ob
 have k0_0:=S0.out.c0
 have k0_1:=S0.out.c1
 have k0_2:=S0.out.c2
 have k0_3:=S0.out.c3
 have k0_21:=S0.out.c21
 have k0_22:=S0.out.c22
 have k0_23:=S0.out.c23
 have hsz0:(w.alloc (.cells (attC p) 30)).heap.size=w.heap.size+1:=by simp
 clear h
 go_enter Tryz.func74,Tryz.ntmps74
 go_wp2_with fail
 refine (zsm _ lo hi p.med trivial trivial S0.out.hx (decide_eq_true hm)).mono ?_
 rintro e w1 ⟨v,rfl,ho,hb⟩
 have S1:=hide (zaa S0.out.bl hb (by simp))
 have HO:=hide (zav ho (show w.heap.size≤_ by simp))
 obtain ⟨A,c,rfl,_,_⟩:=zac ho
 have HPOS:Hid (0<(fI p.med).length):=hide (by unfold fI;rw [zb5];decide)
 clear ho hb
 go_wp2_with (go_at_call 110;refine (zdY _ _ _ _ HPOS.out).mono ?_;rintro e wq ⟨rfl,rfl⟩)
 go_ret2
 exact zaL.yes HO.out S1.out
theorem ztc (hm:p.med<0):Calls Tryz.prog 74 #[.agg (attC p),.int .i64 4] w (zaL w (be 4 p.med.toNat) false):=by
 have S0:=hide (AtS.start h hh)
 have HOB:=h.ob
 have k0_0:=S0.out.c0
 have k0_1:=S0.out.c1
 have k0_2:=S0.out.c2
 have k0_3:=S0.out.c3
 have k0_21:=S0.out.c21
 have k0_22:=S0.out.c22
 have k0_23:=S0.out.c23
 have hsz0:(w.alloc (.cells (attC p) 30)).heap.size=w.heap.size+1:=by simp
 clear h
 go_enter Tryz.func74,Tryz.ntmps74
 go_wp2_with (first
  | (go_at_call 111;refine (zlT _ _ hm).mono ?_;rintro e wq ⟨rfl,rfl⟩)
  | (go_at_call 110;refine (zqz _ _ _ _).mono ?_;rintro e wq ⟨rfl,rfl⟩))
 go_ret2
 exact zaL.no S0.out.bl
theorem zqj (hm:0≤p.pref∧p.pref≤4294967295):Calls Tryz.prog 74 #[.agg (attC p),.int .i64 5] w (zaL w (be 4 p.pref.toNat) true):=by
 have S0:=hide (AtS.start h hh)
 have HOB:=h.ob
 have k0_0:=S0.out.c0
 have k0_1:=S0.out.c1
 have k0_2:=S0.out.c2
 have k0_3:=S0.out.c3
 have k0_21:=S0.out.c21
 have k0_22:=S0.out.c22
 have k0_23:=S0.out.c23
 have hsz0:(w.alloc (.cells (attC p) 30)).heap.size=w.heap.size+1:=by simp
 clear h
 go_enter Tryz.func74,Tryz.ntmps74
 go_wp2_with fail
 refine (zsm _ lo hi p.pref trivial trivial S0.out.hx (decide_eq_true hm)).mono ?_
 rintro e w1 ⟨v,rfl,ho,hb⟩
 have S1:=hide (zaa S0.out.bl hb (by simp))
 have HO:=hide (zav ho (show w.heap.size≤_ by simp))
 obtain ⟨A,c,rfl,_,_⟩:=zac ho
 have HPOS:Hid (0<(fI p.pref).length):=hide (by unfold fI;rw [zb5];decide)
 clear ho hb
 go_wp2_with (go_at_call 110;refine (zdY _ _ _ _ HPOS.out).mono ?_;rintro e wq ⟨rfl,rfl⟩)
 go_ret2
 exact zaL.yes HO.out S1.out
theorem ztb (hm:p.pref<0):Calls Tryz.prog 74 #[.agg (attC p),.int .i64 5] w (zaL w (be 4 p.pref.toNat) false):=by
 have S0:=hide (AtS.start h hh)
 have HOB:=h.ob
 have k0_0:=S0.out.c0
 have k0_1:=S0.out.c1
 have k0_2:=S0.out.c2
 have k0_3:=S0.out.c3
 have k0_21:=S0.out.c21
 have k0_22:=S0.out.c22
 have k0_23:=S0.out.c23
 have hsz0:(w.alloc (.cells (attC p) 30)).heap.size=w.heap.size+1:=by simp
 clear h
 go_enter Tryz.func74,Tryz.ntmps74
 go_wp2_with (first
  | (go_at_call 111;refine (zlT _ _ hm).mono ?_;rintro e wq ⟨rfl,rfl⟩)
  | (go_at_call 110;refine (zqz _ _ _ _).mono ?_;rintro e wq ⟨rfl,rfl⟩))
 go_ret2
 exact zaL.no S0.out.bl
theorem zqi (hf:four p.os p.ob=true):Calls Tryz.prog 74 #[.agg (attC p),.int .i64 9] w (zaL w (zat p.os p.ob) true):=by
 have S0:=hide (AtS.start h hh)
 have HOB:=h.ob
 have k0_0:=S0.out.c0
 have k0_1:=S0.out.c1
 have k0_2:=S0.out.c2
 have k0_3:=S0.out.c3
 have k0_21:=S0.out.c21
 have k0_22:=S0.out.c22
 have k0_23:=S0.out.c23
 have hsz0:(w.alloc (.cells (attC p) 30)).heap.size=w.heap.size+1:=by simp
 clear h
 go_enter Tryz.func74,Tryz.ntmps74
 go_wp2_with (with_reducible refine zah rfl (.tmp 48) rfl w.heap.size rfl S0.out.b HOB ?_)
 refine (zc8 _ p.os p.ob HOB).mono ?_
 rintro e w1 ⟨v,rfl,ho,hb⟩
 have S1:=hide (zaa S0.out.bl hb (by simp))
 have HO:=hide (zav ho (show w.heap.size≤_ by simp))
 obtain ⟨A,c,rfl,_,_⟩:=zac ho
 have HPOS:Hid (0<(zat p.os p.ob).length):=hide (by rw [(zkO HOB hf).2.1];decide)
 clear ho hb
 go_wp2_with (go_at_call 110;refine (zdY _ _ _ _ HPOS.out).mono ?_;rintro e wq ⟨rfl,rfl⟩)
 go_ret2
 exact zaL.yes HO.out S1.out
theorem znD (hz:p.os=0∧p.ob=zay):Calls Tryz.prog 74 #[.agg (attC p),.int .i64 9] w (zaL w (zat p.os p.ob) false):=by
 have S0:=hide (AtS.start h hh)
 have HOB:=h.ob
 have k0_0:=S0.out.c0
 have k0_1:=S0.out.c1
 have k0_2:=S0.out.c2
 have k0_3:=S0.out.c3
 have k0_21:=S0.out.c21
 have k0_22:=S0.out.c22
 have k0_23:=S0.out.c23
 have hsz0:(w.alloc (.cells (attC p) 30)).heap.size=w.heap.size+1:=by simp
 have HZ:=hide hz
 clear hz
 clear h
 go_enter Tryz.func74,Tryz.ntmps74
 go_wp2_with (with_reducible refine zah rfl (.tmp 48) rfl w.heap.size rfl S0.out.b HOB ?_)
 refine (zc8 _ p.os p.ob HOB).mono ?_
 rintro e w1 ⟨v,rfl,ho,hb⟩
 have S1:=hide (zaa S0.out.bl hb (by simp))
 have HO:=hide (zav ho (show w.heap.size≤_ by simp))
 obtain ⟨A,c,rfl,_,_⟩:=zac ho
 have HPOS:(zat p.os p.ob).length=0:=by rw [HZ.out.1,HZ.out.2];decide
 rw [HPOS]
 clear ho hb HO HPOS
 go_wp2_with (go_at_call 110;refine (zgl _ _ _).mono ?_;rintro e wq ⟨rfl,rfl⟩)
 go_ret2
 exact zaL.no S1.out
theorem ztf (hn:p.cl.length≤32) (hok:p.cl.all okD=true) (hp:0<(clB p.cl).length):Calls Tryz.prog 74 #[.agg (attC p),.int .i64 10] w (zaL w (clB p.cl) true):=by
 have S0:=hide (AtS.start h hh)
 have HOB:=h.ob
 have k0_0:=S0.out.c0
 have k0_1:=S0.out.c1
 have k0_2:=S0.out.c2
 have k0_3:=S0.out.c3
 have k0_21:=S0.out.c21
 have k0_22:=S0.out.c22
 have k0_23:=S0.out.c23
 have hsz0:(w.alloc (.cells (attC p) 30)).heap.size=w.heap.size+1:=by simp
 have hl:=h.cl.len
 clear h
 go_enter Tryz.func74,Tryz.ntmps74
 go_wp2_with fail
 refine (zlC _ lo hi p.cA p.cn p.cc p.cl S0.out.at_.cl S0.out.hx hok (by omega)).mono ?_
 rw [zpX]
 rintro e w1 ⟨v,rfl,ho,hb⟩
 have S1:=hide (zaa S0.out.bl hb (by simp))
 have HO:=hide (zav ho (show w.heap.size≤_ by simp))
 obtain ⟨A,c,rfl,_,_⟩:=zac ho
 have HPOS:=hide hp
 clear ho hb hp
 go_wp2_with (go_at_call 110;refine (zdY _ _ _ _ HPOS.out).mono ?_;rintro e wq ⟨rfl,rfl⟩)
 go_ret2
 exact zaL.yes HO.out S1.out
theorem zqn (hn:p.cl.length≤32) (hok:p.cl.all okD=true) (hp:(clB p.cl).length=0):Calls Tryz.prog 74 #[.agg (attC p),.int .i64 10] w (zaL w (clB p.cl) false):=by
 have S0:=hide (AtS.start h hh)
 have HOB:=h.ob
 have k0_0:=S0.out.c0
 have k0_1:=S0.out.c1
 have k0_2:=S0.out.c2
 have k0_3:=S0.out.c3
 have k0_21:=S0.out.c21
 have k0_22:=S0.out.c22
 have k0_23:=S0.out.c23
 have hsz0:(w.alloc (.cells (attC p) 30)).heap.size=w.heap.size+1:=by simp
 have hl:=h.cl.len
 clear h
 go_enter Tryz.func74,Tryz.ntmps74
 go_wp2_with fail
 refine (zlC _ lo hi p.cA p.cn p.cc p.cl S0.out.at_.cl S0.out.hx hok (by omega)).mono ?_
 rw [zpX]
 rintro e w1 ⟨v,rfl,ho,hb⟩
 have S1:=hide (zaa S0.out.bl hb (by simp))
 have HO:=hide (zav ho (show w.heap.size≤_ by simp))
 obtain ⟨A,c,rfl,_,_⟩:=zac ho
 rw [hp]
 clear ho hb HO hp
 go_wp2_with (go_at_call 110;refine (zgl _ _ _).mono ?_;rintro e wq ⟨rfl,rfl⟩)
 go_ret2
 exact zaL.no S1.out
theorem znE (hn:p.tl.length≤1) (hok:p.tl.all okT=true) (hp:0<(catE fT p.tl).length):Calls Tryz.prog 74 #[.agg (attC p),.int .i64 22] w (zaL w (catE fT p.tl) true):=by
 have S0:=hide (AtS.start h hh)
 have HOB:=h.ob
 have k0_0:=S0.out.c0
 have k0_1:=S0.out.c1
 have k0_2:=S0.out.c2
 have k0_3:=S0.out.c3
 have k0_21:=S0.out.c21
 have k0_22:=S0.out.c22
 have k0_23:=S0.out.c23
 have hsz0:(w.alloc (.cells (attC p) 30)).heap.size=w.heap.size+1:=by simp
 have hl:=h.tl.len
 clear h
 go_enter Tryz.func74,Tryz.ntmps74
 go_wp2_with fail
 refine (zlB _ lo hi p.tA p.tn p.tc p.tl S0.out.at_.tl S0.out.hx hok (by omega)).mono ?_
 rintro e w1 ⟨v,rfl,ho,hb⟩
 have S1:=hide (zaa S0.out.bl hb (by simp))
 have HO:=hide (zav ho (show w.heap.size≤_ by simp))
 obtain ⟨A,c,rfl,_,_⟩:=zac ho
 have HPOS:=hide hp
 clear ho hb hp
 go_wp2_with (go_at_call 110;refine (zdY _ _ _ _ HPOS.out).mono ?_;rintro e wq ⟨rfl,rfl⟩)
 go_ret2
 exact zaL.yes HO.out S1.out
theorem zql (hn:p.tl.length≤1) (hok:p.tl.all okT=true) (hp:(catE fT p.tl).length=0):Calls Tryz.prog 74 #[.agg (attC p),.int .i64 22] w (zaL w (catE fT p.tl) false):=by
 have S0:=hide (AtS.start h hh)
 have HOB:=h.ob
 have k0_0:=S0.out.c0
 have k0_1:=S0.out.c1
 have k0_2:=S0.out.c2
 have k0_3:=S0.out.c3
 have k0_21:=S0.out.c21
 have k0_22:=S0.out.c22
 have k0_23:=S0.out.c23
 have hsz0:(w.alloc (.cells (attC p) 30)).heap.size=w.heap.size+1:=by simp
 have hl:=h.tl.len
 clear h
 go_enter Tryz.func74,Tryz.ntmps74
 go_wp2_with fail
 refine (zlB _ lo hi p.tA p.tn p.tc p.tl S0.out.at_.tl S0.out.hx hok (by omega)).mono ?_
 rintro e w1 ⟨v,rfl,ho,hb⟩
 have S1:=hide (zaa S0.out.bl hb (by simp))
 have HO:=hide (zav ho (show w.heap.size≤_ by simp))
 obtain ⟨A,c,rfl,_,_⟩:=zac ho
 rw [hp]
 clear ho hb HO hp
 go_wp2_with (go_at_call 110;refine (zgl _ _ _).mono ?_;rintro e wq ⟨rfl,rfl⟩)
 go_ret2
 exact zaL.no S1.out
theorem zte (hn:p.ex.length≤64) (hp:0<p.ex.length):Calls Tryz.prog 74 #[.agg (attC p),.int .i64 16] w (zaL w (zbb p.ex) true):=by
 have S0:=hide (AtS.start h hh)
 have HOB:=h.ob
 have k0_0:=S0.out.c0
 have k0_1:=S0.out.c1
 have k0_2:=S0.out.c2
 have k0_3:=S0.out.c3
 have k0_21:=S0.out.c21
 have k0_22:=S0.out.c22
 have k0_23:=S0.out.c23
 have hsz0:(w.alloc (.cells (attC p) 30)).heap.size=w.heap.size+1:=by simp
 have hl:=h.ex.1
 clear h
 go_enter Tryz.func74,Tryz.ntmps74
 go_wp2_with fail
 refine (zfh _ lo hi p.eA p.en p.ec p.ex S0.out.at_.ex S0.out.hx (by omega)).mono ?_
 rintro e w1 ⟨v,rfl,ho,hb⟩
 have S1:=hide (zaa S0.out.bl hb (by simp))
 have HO:=hide (zav ho (show w.heap.size≤_ by simp))
 obtain ⟨A,c,rfl,_,_⟩:=zac ho
 have HPOS:Hid (0<p.en*8):=hide (by omega)
 have HFL:Hid ((zbb p.ex).length=p.en*8):=hide (by rw [zcB,hl])
 clear ho hb hp
 go_wp2_with (go_at_call 110;refine (zdY _ _ _ _ HPOS.out).mono ?_;rintro e wq ⟨rfl,rfl⟩)
 go_ret2
 exact zaL.yes (by rw [HFL.out];exact HO.out) S1.out
theorem zle (hp:p.ex.length=0):Calls Tryz.prog 74 #[.agg (attC p),.int .i64 16] w (zaL w (zbb p.ex) false):=by
 have S0:=hide (AtS.start h hh)
 have HOB:=h.ob
 have k0_0:=S0.out.c0
 have k0_1:=S0.out.c1
 have k0_2:=S0.out.c2
 have k0_3:=S0.out.c3
 have k0_21:=S0.out.c21
 have k0_22:=S0.out.c22
 have k0_23:=S0.out.c23
 have hsz0:(w.alloc (.cells (attC p) 30)).heap.size=w.heap.size+1:=by simp
 have hl:=h.ex.1
 clear h
 go_enter Tryz.func74,Tryz.ntmps74
 go_wp2_with fail
 refine (zfh _ lo hi p.eA p.en p.ec p.ex S0.out.at_.ex S0.out.hx (by omega)).mono ?_
 rintro e w1 ⟨v,rfl,ho,hb⟩
 have S1:=hide (zaa S0.out.bl hb (by simp))
 have HO:=hide (zav ho (show w.heap.size≤_ by simp))
 obtain ⟨A,c,rfl,_,_⟩:=zac ho
 have hz:p.en*8=0:=by omega
 rw [hz]
 clear ho hb HO hp
 go_wp2_with (go_at_call 110;refine (zgl _ _ _).mono ?_;rintro e wq ⟨rfl,rfl⟩)
 go_ret2
 exact zaL.no S1.out
end
end
end Go.Proofs.YtookpplebikfnaaGreatDoor
