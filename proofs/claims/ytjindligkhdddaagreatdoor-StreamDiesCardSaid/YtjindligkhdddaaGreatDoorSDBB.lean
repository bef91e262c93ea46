/-
  What Right, holding and Bytes of package uroute do, in whatever memory. No condition beyond sizes that fit memory.
  What read and Take of package uroute do, in whatever memory. No condition beyond sizes that fit memory.
  What Take of package uroute does, in whatever memory. No condition beyond sizes that fit memory.
-/
import Derived.Test.YtjindligkhdddaaGreatDoorSDBA
set_option linter.unusedVariables false
set_option linter.unusedSimpArgs false
namespace Go.Proofs.YtjindligkhdddaaGreatDoor
section
set_option maxRecDepth 20000
open Go.RowKit
set_option maxHeartbeats 1000000 in
theorem zgM (w:World) (u:Ur) (hu:u.W) :
  Calls Tryz.prog 183 #[.agg (uroC u)] w fun e w'=>e = .returned (.bool (zbH u))∧Below w.heap.size w w':=by
 have W0:=hide ((Below.refl w.heap.size w).alloc (Nat.le_refl _) (.cells (uroC u) 236))
 have HB:=hide (Blk.new w 236 (uroC u))
 have HU:=hide hu
 have kl:=zjV hu HB.out
 clear hu
 by_cases hl:0≤u.lab∧u.lab≤1048575
 ·have HR:Hid (zbH u=zo3 u.s u.bs u.k):=hide (by unfold zbH;rw [decide_eq_true hl,Bool.and_true])
  obtain ⟨n,hn⟩:∃ n:Nat,u.lab=(n:Int):=⟨u.lab.toNat,by omega⟩
  have hn':n≤1048575:=by omega
  rw [hn] at kl
  clear hl hn
  go_enter Tryz.func183,Tryz.ntmps183
  go_wp2_with fail
  refine (zgz _ n true hn').mono ?_
  rintro e w1 ⟨v,rfl,ho,hb⟩
  have B1:=hide (HB.out.over hb)
  have W1:=hide (zaa W0.out hb (Nat.le_refl _))
  clear ho hb
  go_wp2_with (first
   | ((with_reducible refine zfL ?_ (.tmp 14) rfl w.heap.size 8 rfl (uro_p HU.out B1.out) HU.out.bs ?_);· rfl)
   | ((with_reducible refine zaN ?_ (.tmp 17) rfl w.heap.size 8 rfl (uro_a HU.out B1.out) HU.out.bs ?_);· rfl))
  refine (zxZ _ u.s u.k u.bs HU.out.bs u.s u.bs HU.out.bs HU.out.s).mono ?_
  rintro e w2 ⟨rfl,hb2⟩
  go_wp2
  go_ret
  exact ⟨by rw [HR.out];rfl,zaa W1.out hb2 (Nat.le_refl _)⟩
 ·have HR:Hid (zbH u=false):=hide (by unfold zbH;rw [decide_eq_false hl,Bool.and_false])
  have hl':u.lab<0∨1048575<u.lab:=by omega
  clear hl
  go_enter Tryz.func183,Tryz.ntmps183
  go_wp2_with fail
  refine (zvK _ u.lab true hl').mono ?_
  rintro e w1 ⟨rfl,rfl⟩
  go_wp2
  go_ret
  exact ⟨by rw [HR.out];rfl,W0.out⟩
theorem zgb (w:World) (q:Nat) (hq:q≤1000000):Calls Tryz.prog 190 #[.int .i64 (q:Int)] w fun e w'=>e = .returned (.int .i64 (((q+7)/8:Nat):Int))∧w=w':=by
 go_enter Tryz.func190,Tryz.ntmps190
 go_wp2
 go_ret
 refine ⟨?_,rfl⟩
 congr 2
theorem zgB.wide {w:World} {hi hj:Nat} {arr:Array Value} {L:List (List UInt8)} (h:zgB w hi arr L) (hh:hi≤hj):zgB w hj arr L:=fun j x hx=>by
 obtain ⟨A,n,c,h1,h2⟩:=h j x hx
 exact ⟨A,n,c,h1,h2.more (Nat.le_refl _) hh⟩
theorem u8_of {q:Nat} (h:88+q<256):(88+(q:Int))=((UInt8.ofNat (88+q)).toNat:Int):=by
 have h:(UInt8.ofNat (88+q)).toNat=88+q:=by simp;omega
 rw [h]
 omega
theorem zog {u:Ur} {q n:Nat} (hq:u.k=q) (hn:u.lab=n):zcc u=[[UInt8.ofNat (88+q)],zdu n true,u.rd,u.bs.take ((q+7)/8)].flatten:=by
 unfold zcc plen
 rw [hq,hn,Int.toNat_natCast,Int.toNat_natCast]
 simp
set_option maxHeartbeats 2000000 in
theorem zjX (w:World) (u:Ur) (hu:u.W) :
  Calls Tryz.prog 174 #[.agg (uroC u)] w fun e w'=>∃ v,e = .returned (.tuple #[v,.int .i64 (errU u)])∧w'.ownsRow w.heap.size 5 1 v (zfE u).length (bvs (zfE u))∧Below w.heap.size w w':=by
 have W0:=hide ((Below.refl w.heap.size w).alloc (Nat.le_refl _) (.cells (uroC u) 236))
 have HB:=hide (Blk.new w 236 (uroC u))
 have HU:=hide hu
 clear hu
 cases hr:zbH u
 ·have HE:Hid (errU u=1):=hide (by unfold errU;rw [hr];rfl)
  have HO:Hid (zfE u=[]):=hide (by unfold zfE;rw [hr];rfl)
  have HR:=hide hr
  clear hr
  go_enter Tryz.func174,Tryz.ntmps174
  go_wp2_with (with_reducible refine zbE rfl (.tmp 1) rfl w.heap.size rfl HB.out HU.out ?_)
  refine (zgM _ u HU.out).mono ?_
  rw [HR.out]
  rintro e w1 ⟨rfl,hb1⟩
  have W1:=hide (zaa W0.out hb1 (Nat.le_refl _))
  clear hb1
  go_wp2
  go_ret2
  refine ⟨.slice none 0 0,?_,?_,W1.out⟩
  ·rw [HE.out];rfl
  ·rw [HO.out];exact World.ownsRow_nil _ _ _ _
 ·have R:=(zfi u).1 hr
  obtain ⟨q,hq⟩:∃ q:Nat,u.k=(q:Int):=⟨u.k.toNat,by have:=R.k;omega⟩
  obtain ⟨n,hn⟩:∃ n:Nat,u.lab=(n:Int):=⟨u.lab.toNat,by have:=R.lab;omega⟩
  obtain ⟨s,hs⟩:∃ s:Nat,u.s=(s:Int):=⟨u.s.toNat,by have:=R.sz;omega⟩
  have hq8:q≤8*s:=by have:=R.k;omega
  have hs4:s=4∨s=16:=by have:=R.sz;omega
  have hn':n≤1048575:=by have:=R.lab;omega
  have HCODE:=hide (zog hq hn)
  have HBY:Hid (zaw u.s u.bs=u.bs.take s):=hide (by unfold zaw;rw [if_pos R.a,hs,Int.toNat_natCast])
  have HE:Hid (errU u=0):=hide (by unfold errU;rw [hr];rfl)
  have HO:Hid (zfE u=zcc u):=hide (by unfold zfE;rw [hr];rfl)
  have HLS:Hid (((u.bs.take s).length:Nat)=s):=hide (by rw [List.length_take,HU.out.bs];omega)
  have HQ:=hide hq
  have HN:=hide hn
  have HR:=hide hr
  clear hr R hq hn hs
  go_enter Tryz.func174,Tryz.ntmps174
  go_wp2_with (with_reducible refine zbE rfl (.tmp 1) rfl w.heap.size rfl HB.out HU.out ?_)
  refine (zgM _ u HU.out).mono ?_
  rw [HR.out]
  rintro e w1 ⟨rfl,hb1⟩
  have B1:=hide (HB.out.over hb1)
  have W1:=hide (zaa W0.out hb1 (Nat.le_refl _))
  have k25:=zpz HU.out B1.out
  rw [HQ.out] at k25
  have k26:(w1.alloc (.cells #[.int .u8 (88+(q:Int))] 5)).cell? ⟨w.heap.size,26,none⟩=some (.int .i64 (n:Int)):=by
   have h:=zjV HU.out (B1.out.alloc (.cells #[.int .u8 (88+(q:Int))] 5))
   rw [HN.out] at h
   exact h
  have h256:(88+(q:Int))<256:=by omega
  clear hb1
  go_wp2_with fail
  refine (zgz _ n true hn').mono ?_
  rintro e w2 ⟨v2,rfl,ho2,hb2⟩
  obtain ⟨A2,c2,rfl,_,_⟩:=zag ho2
  have hz1:(w1.alloc (.cells #[.int .u8 (88+(q:Int))] 5)).heap.size=w1.heap.size+1:=by simp
  have O2:=hide ((At.own ho2).more (lo':=0) (hi':=w2.heap.size) (Nat.zero_le _) (Nat.le_refl _))
  have OH:=hide (((zkq w1 (88+(q:Int)) 5 (UInt8.ofNat (88+q)) (u8_of (by omega))).below (hb2.mono (by omega))).more (lo':=0) (hi':=w2.heap.size) (Nat.zero_le _) (by have:=hb2.size;omega))
  have B2:=hide ((B1.out.alloc (.cells #[.int .u8 (88+(q:Int))] 5)).over hb2)
  have W2:=hide (zaa (W1.out.alloc W1.out.size (.cells #[.int .u8 (88+(q:Int))] 5)) hb2 (Nat.le_refl _))
  have HC25:Hid ((uroC u)[25]?=some (.int .i64 (q:Int))):=hide (by have h:=zv9 HU.out;rw [HQ.out] at h;exact h)
  have hp:(q+7)/8≤s:=by omega
  have hs0:0<s:=by omega
  clear hb2 ho2 hz1 k25 k26 B1 HB
  go_wp2_with fail
  refine wp_region_held_drew (S:=fun x=>Blk x w.heap.size 236 (uroC u)∧Below w2.heap.size w2 x) (by kernel_rfl) ⟨B2.out.drew,zam (Below.refl _ _)⟩ (fun hHeld=>?_)
  refine rgT 0 ?_
  refine rgT 1 ?_
  refine rgV 2 (.agg (zas u.s u.bs)) ?_ ?_
  ·(intro w' hSw;exact zbC (.tmp 24) rfl w.heap.size 8 rfl (uro_a HU.out hSw.1) HU.out.bs)
  refine rgT 4 ?_
  refine rgT 5 ?_
  refine rgK 6 (fun w' hSw=>(hSw.1.cell 25).trans HC25.out) ?_
  refine zal (i:=3) rfl (by kernel_rfl) (by rfl) (zdg _ u.s u.bs HU.out.bs) (fun w=>by kernel_rfl) ?_
  rintro e w3 ⟨v3,rfl,ho3,hb3⟩
  rw [HBY.out,HLS.out] at ho3
  obtain ⟨A3,c3,rfl,hc3,_⟩:=zag ho3
  have O3:=hide (At.own ho3)
  obtain ⟨bb,oo,_,rfl,_,_⟩:=O3.out.at_ hs0
  have hpc:(q+7)/8≤c3:=by omega
  refine ⟨_,rfl,⟨hHeld.1.below hb3 hHeld.1.lt,zaa hHeld.2 hb3 (Nat.le_refl _)⟩,fun hHeld=>?_⟩
  refine rgN ?_
  refine zal (i:=7) rfl (by kernel_rfl) (by rfl) (zgb _ q (by omega)) (fun w=>by kernel_rfl) ?_
  rintro e w4 ⟨rfl,rfl⟩
  refine ⟨_,rfl,hHeld,fun hHeld=>?_⟩
  refine rgN ?_
  refine rgV 8 (.slice (some ⟨bb,oo,none⟩) ((q+7)/8) c3) ?_ ?_
  ·(intro w' hSw;exact zlc w' (.tmp 26) (.tmp 30) 22 5 rfl Tryz.underlying22 (fun w=>Tryz.sizeOf5 w) rfl rfl hpc)
  refine rgT 9 ?_
  refine wpAnyH_done (by kernel_rfl) ?_ _
  have B3:=hide hHeld.1
  have W3:=hide (zaa W2.out hHeld.2 (Nat.le_refl _))
  have G3:=hide ((O3.out.head hp).more (lo':=0) (hi':=w3.heap.size) (Nat.zero_le _) (Nat.le_refl _))
  have F2:=hide ((O2.out.below hHeld.2).more (lo':=0) (hi':=w3.heap.size) (Nat.le_refl _) hHeld.2.size)
  have F1:=hide ((OH.out.below hHeld.2).more (lo':=0) (hi':=w3.heap.size) (Nat.le_refl _) hHeld.2.size)
  have htk:(u.bs.take s).take ((q+7)/8)=u.bs.take ((q+7)/8):=by rw [List.take_take,Nat.min_eq_left hp]
  rw [htk] at G3
  have D3:=hide ((At.uro HU.out hHeld.1).more (lo':=0) (hi':=w3.heap.size) (Nat.zero_le _) hHeld.1.lt)
  have R4:=hide (zrW (c1:=1) (c2:=c2) (c3:=8) (c4:=c3) F1.out F2.out D3.out G3.out)
  have hsum:([[UInt8.ofNat (88+q)],zdu n true,u.rd,u.bs.take ((q+7)/8)]:List (List UInt8)).flatten.length≤140737488351000:=by
   simp only [List.flatten_cons,List.flatten_nil,List.length_append,List.length_cons,List.length_nil,zgx,HU.out.rd,List.length_take,HU.out.bs]
   omega
  have HSUM:=hide hsum
  clear hHeld ho3 hb3 hsum htk O3 O2 OH B2 W2 F1 F2 D3 G3
  go_wp2_with fail
  refine (zcG _ w3.heap.size 22 _ [[UInt8.ofNat (88+q)],zdu n true,u.rd,u.bs.take ((q+7)/8)] 4 rfl (by decide) (Blk.new w3 _ _) (R4.out.below ((Below.refl w3.heap.size w3).alloc (Nat.le_refl _) _) |>.wide (by simp)) HSUM.out).mono ?_
  rw [← HCODE.out]
  rintro e w5 ⟨v5,rfl,ho5,hb5⟩
  go_wp2
  go_ret2
  refine ⟨v5,?_,?_,zaa (W3.out.alloc W3.out.size _) hb5 (Nat.le_refl _)⟩
  ·rw [HE.out];rfl
  ·rw [HO.out];exact zaA ho5 (Nat.le_trans W3.out.size (by simp))
end
section
open Go.RowKit
structure UrS (w x:World) (B g:Nat) (bs:List UInt8):Prop where
 r:Blk x w.heap.size 236 (uroC zeI)
 bl:Below w.heap.size w x
 hB:w.heap.size<B
 hg:B≤g
 d:∃ bad,Rd x B g bs bad
theorem UrS.over {w x y:World} {B g:Nat} {bs:List UInt8} (h:UrS w x B g bs) (hb:Below x.heap.size x y):UrS w y B g bs:=by
 obtain ⟨bad,hd⟩:=h.d
 exact ⟨h.r.over hb,zaa h.bl hb (Nat.le_refl _),h.hB,h.hg,bad,hd.below hb hd.lt⟩
theorem UrS.took {w x y:World} {B g:Nat} {bs bs':List UInt8} {bad:Bool} (h:UrS w x B g bs) (hg:x.grownBy y (some g)) (hd:Rd y B g bs' bad):UrS w y B g bs' :=
 ⟨h.r.grown hg (fun e=>by have h1:=h.hB;have h2:=h.hg;injection e;omega),h.bl.grown hg h.bl.size (fun k hk=>by have h1:=h.hB;have h2:=h.hg;injection hk;omega),h.hB,h.hg,bad,hd⟩
theorem UrS.other {w x y:World} {B g q:Nat} {bs:List UInt8} (h:UrS w x B g bs) (hg:x.grownBy y (some q)) (hq:g<q):UrS w y B g bs:=by
 obtain ⟨bad,hd⟩:=h.d
 exact ⟨h.r.grown hg (fun e=>by have h1:=h.hB;have h2:=h.hg;injection e;omega),h.bl.grown hg h.bl.size (fun k hk=>by have h1:=h.hB;have h2:=h.hg;injection hk;omega),h.hB,h.hg,bad,hd.keep hg (fun k hk=>by injection hk;exact .inr (by omega))⟩
theorem UrS.glt {w x:World} {B g:Nat} {bs:List UInt8} (h:UrS w x B g bs):g<x.heap.size:=by
 obtain ⟨bad,hd⟩:=h.d
 exact hd.lt
theorem Blk.took {x y:World} {g q:Nat} {t:TypeId} {cs:Array Value} (h:Blk x q t cs) (hg:x.grownBy y (some g)) (hq:g<q):Blk y q t cs:=h.grown hg (fun e=>by injection e;omega)
theorem zqU (R:List UInt8) (s:Nat):(bvs R).take s++(List.replicate s (.int .u8 0:Value)).drop (min R.length s)=bvs (zi8 R s):=by
 unfold zi8
 rw [zdx,List.drop_replicate]
 unfold bvs
 rw [List.map_take,List.map_replicate]
 have h3:s-min R.length s=s-R.length:=by omega
 rw [h3]
 rfl
set_option maxRecDepth 20000 in
set_option maxHeartbeats 2000000 in
theorem zlL (w:World) (lo hi:Nat) (A:Option Addr) (n c:Nat) (b:List UInt8) (s:Nat) (h:At w lo hi A n b) (hh:hi≤w.heap.size) (hn:n≤1000) (hs:s=4∨s=16) :
  Calls Tryz.prog 213 #[.slice A n c,.int .i64 (s:Int)] w fun e w'=>e = .returned (.agg (uroC (rdU b s)))∧Below w.heap.size w w':=by
 have W0:=hide ((Below.refl w.heap.size w).alloc (Nat.le_refl _) (.cells zUro 236))
 have RES:Hid (Blk (w.alloc (.cells zUro 236)) w.heap.size 236 (uroC zeI)):=hide (by rw [zga];exact Blk.new w _ _)
 have HA:=hide (h.alloc hh (.cells zUro 236))
 have hs0:(w.alloc (.cells zUro 236)).heap.size=w.heap.size+1:=by simp
 have hbl:b.length≤1000:=by rw [h.len];exact hn
 have HW:=hide (rdU_W (b:=b) (size:=(s:Int)) (by omega))
 obtain ⟨i0,hi0,hz0,hz1,hz2⟩:=info_parts zbQ
 have hv:zan b 1<256:=by rw [(zfp b).1];exact (b.getD 0 0).toNat_lt
 obtain ⟨V,hV⟩:∃ V,zan b 1=V:=⟨_,rfl⟩
 obtain ⟨b1,hb1⟩:∃ b1,zaf b 1=b1:=⟨_,rfl⟩
 have hb1l:b1.length≤1000:=by rw [← hb1,(zfp b).2,List.length_drop];omega
 obtain ⟨t3,ht3⟩:∃ t3,zab b1 3=t3:=⟨_,rfl⟩
 obtain ⟨b2,hb2⟩:∃ b2,zae b1 3=b2:=⟨_,rfl⟩
 obtain ⟨t8,ht8⟩:∃ t8,zab b2 8=t8:=⟨_,rfl⟩
 obtain ⟨b3,hb3⟩:∃ b3,zae b2 8=b3:=⟨_,rfl⟩
 have HU:Hid (rdU b s=⟨pad8 t8,s,pad (b3.take s),(V:Int)-88,zdX t3⟩):=hide (by
  unfold rdU zxm
  rw [hb1,hb2,hb3,ht8,ht3,hV,Int.toNat_natCast])
 have hb3l:b3.length≤1000:=by
  rw [← hb3,← hb2]
  have h1:∀ (l:List UInt8) (k:Int),(zae l k).length≤l.length:=fun l k=>by
   unfold zae;split
   ·rw [List.length_drop];omega
   ·exact Nat.zero_le _
  exact Nat.le_trans (h1 _ _) (Nat.le_trans (h1 _ _) hb1l)
 have ht3l:t3.length≤1000:=by rw [← ht3];exact Nat.le_trans (ziu _ _) hb1l
 rw [hV] at hv
 have E1:=hide hb1
 have EV:=hide hV
 have E3:=hide ht3
 have E2:=hide hb2
 have E8:=hide ht8
 have E4:=hide hb3
 have HS:=hide hs
 clear h hV hb1 ht3 hb2 ht8 hb3 hs
 go_enter Tryz.func213,Tryz.ntmps213
 go_wp2_with fail
 generalize hw0:w.alloc (.cells zUro 236)=w0 at HA RES W0 hs0 ⊢
 clear hw0
 refine (zbt w0 lo hi A n c b HA.out (by omega) (by omega)).mono ?_
 rintro e w1 ⟨g,rfl,hg,hr1,hbe1⟩
 have S1:=hide (show UrS w w1 w0.heap.size g b from ⟨RES.out.over hbe1,zaa W0.out hbe1 (Nat.le_refl _),by omega,hg,_,hr1⟩)
 have hBw:w.heap.size<w0.heap.size:=by omega
 generalize w0.heap.size=B at *
 clear hr1 hbe1 HA RES W0 hs0 hh
 obtain ⟨bad1,R1⟩:=S1.out.d
 go_wp2_with fail
 refine (zaW w1 B g b bad1 R1 1 (by decide)).mono ?_
 rintro e w2 ⟨rfl,hr2,hg2⟩
 rw [E1.out] at hr2
 rw [EV.out]
 have S2:=hide (S1.out.took hg2 hr2)
 clear hr2 hg2 S1 R1
 obtain ⟨bad2,R2⟩:=S2.out.d
 go_wp2_with fail
 refine (zaR w2 B g b1 bad2 R2 3 (by decide)).mono ?_
 rw [E3.out,E2.out]
 rintro e w3 ⟨v3,rfl,ho3,hr3,hg3⟩
 have S3:=hide (S2.out.took hg3 hr3)
 obtain ⟨A3,c3,rfl,_,_⟩:=zag ho3
 have O3:=hide (At.own ho3)
 clear ho3 hr3 hg3 S2 R2
 go_wp2_with fail
 refine (zoY w3 A3 _ c3 t3 O3.out (Nat.le_refl _) (by omega)).mono ?_
 obtain ⟨N,hN⟩:∃ N,zdX t3=N:=⟨_,rfl⟩
 rw [hN] at HU
 rw [hN]
 rintro e w4 ⟨rfl,hbe4⟩
 have S4:=hide (S3.out.over hbe4)
 clear hbe4 S3 O3 hN
 generalize zfm t3=L3
 generalize zgV t3=X3
 have S5:=hide (S4.out.over ((Below.refl w4.heap.size w4).alloc (Nat.le_refl _) (.cells #[.int .u8 0,.int .u8 0,.int .u8 0,.int .u8 0,.int .u8 0,.int .u8 0,.int .u8 0,.int .u8 0] 227)))
 have D5:Hid (Blk (w4.alloc (.cells #[.int .u8 0,.int .u8 0,.int .u8 0,.int .u8 0,.int .u8 0,.int .u8 0,.int .u8 0,.int .u8 0] 227)) w4.heap.size 227 (bvs zda).toArray):=hide (Blk.new w4 _ _)
 have hg4:=S4.out.glt
 go_wp2_with fail
 generalize hw5:w4.alloc (.cells #[.int .u8 0,.int .u8 0,.int .u8 0,.int .u8 0,.int .u8 0,.int .u8 0,.int .u8 0,.int .u8 0] 227)=w5 at S5 D5 ⊢
 generalize w4.heap.size=gd at *
 clear hw5 S4
 refine wp_region_held_drew (S:=fun x=>Below w.heap.size w x) (by kernel_rfl) (zam S5.out.bl) (fun hHeld=>?_)
 refine rgT 0 ?_
 refine rgT 1 ?_
 obtain ⟨bad5,R5⟩:=S5.out.d
 refine zal (i:=2) rfl (by kernel_rfl) (by rfl) (zaR _ B g b2 bad5 (R5.keep (zax (zac w5 none)) (by simp)) 8 (by decide)) (fun w=>by kernel_rfl) ?_
 rw [E8.out,E4.out]
 rintro e w6 ⟨v6,rfl,ho6,hr6,hg6⟩
 obtain ⟨A6,c6,rfl,_,_⟩:=zag ho6
 have S6:=hide (S5.out.took (zak (zax (zac w5 (some g))) hg6) hr6)
 have D6:=hide ((D5.out.drew).took hg6 hg4)
 have O6:=hide (At.own ho6)
 refine ⟨_,rfl,S6.out.bl,fun hHeld=>?_⟩
 refine rgN ?_
 clear ho6 hr6 hg6 S5 D5 R5
 refine zgi (i:=3) rfl (by kernel_rfl) (by rfl) (zgv (.tmp 26) (.tmp 28) rfl rfl rfl D6.out rfl O6.out) ?_
 rintro v7 w7 ⟨hb7,hg7⟩
 have e8:(bvs t8).take 8++(bvs zda).drop (min t8.length 8)=bvs (pad8 t8):=ziP t8
 rw [e8] at hb7
 have S7:=hide (S6.out.other hg7 hg4)
 have D7:=hide hb7
 refine ⟨S7.out.bl,fun hHeld=>?_⟩
 refine rgN ?_
 clear hb7 hg7 S6 D6 O6 e8
 refine wpAnyH_done (by kernel_rfl) ?_ _
 go_wp2_with (refine zcn rfl (.tmp 30) (.tmp 30) 22 rfl 5 i0 Tryz.underlying22 hi0 hz0 hz1 hz2 s s (s:Int) rfl rfl rfl (Nat.le_refl _) (by have:=HS.out;omega) ?_;refine Hid.out ?_)
 refine hide ?_
 have S8:=hide (S7.out.over ((Below.refl w7.heap.size w7).alloc (Nat.le_refl _) (.cells (madeCells #[.int .u8 0] s) 5)))
 have D8:=hide (D7.out.alloc (.cells (madeCells #[.int .u8 0] s) 5))
 have F8:Hid (Blk (w7.alloc (.cells (madeCells #[.int .u8 0] s) 5)) w7.heap.size 5 (List.replicate s (.int .u8 0:Value)).toArray):=hide (by
  rw [← toList_madeCells_one]
  exact Blk.new w7 _ _)
 have hg7:=S7.out.glt
 have hd7:=D7.out.lt
 generalize hw8:w7.alloc (.cells (madeCells #[.int .u8 0] s) 5)=w8 at S8 D8 F8 ⊢
 generalize w7.heap.size=gf at *
 clear hw8 S7 D7
 obtain ⟨bad8,R8⟩:=S8.out.d
 go_wp2_with fail
 refine (R8.left).mono ?_
 rintro e w9 ⟨rfl,rfl⟩
 go_wp2_with fail
 refine (zaR w8 B g b3 bad8 R8 (b3.length:Nat) (WalkArith.wf_i64 (by omega))).mono ?_
 rw [zkF]
 rintro e w9 ⟨v9,rfl,ho9,hr9,hg9⟩
 obtain ⟨A9,c9,rfl,_,_⟩:=zag ho9
 have S9:=hide (S8.out.took hg9 hr9)
 have D9:=hide (D8.out.took hg9 hg4)
 have F9:=hide (F8.out.took hg9 hg7)
 have O9:=hide (At.own ho9)
 clear ho9 hr9 hg9 S8 D8 F8 R8
 go_wp2_with (refine zib rfl (zgv (.tmp 32) (.tmp 38) rfl rfl rfl F9.out (List.length_replicate ..) O9.out) ?_;rintro v10 w10 ⟨hb10,hg10⟩;rw [zqU] at hb10;refine Hid.out ?_)
 refine hide ?_
 have S10:=hide (S9.out.other hg10 hg7)
 have D10:=hide (D9.out.grown hg10 (fun e=>by injection e;omega))
 have F10:=hide (At.row hb10)
 have hlF:gf+1≤w10.heap.size:=hb10.lt
 clear hb10 hg10 S9 D9 F9 O9
 go_wp2_with fail
 refine (zgl w10 gf (gf+1) _ s s (zi8 b3 s) (by have h:=F10.out;rw [zi7] at h;exact h) hlF).mono ?_
 obtain ⟨f1,f2,f3⟩:=zvx (R:=b3) HS.out
 rw [f1,f2,f3]
 rintro e w11 ⟨rfl,hbe11⟩
 have S11:=hide (S10.out.over hbe11)
 have D11:=hide (D10.out.over hbe11)
 have NEW:=hide (Blk.new w11 40 zAdr)
 have hP:(pad (b3.take s)).length=16:=zkT (by rw [List.length_take];have:=HS.out;omega)
 have HP:=hide hP
 clear hbe11 S10 D10 F10 f1 f2 f3 hP
 generalize pad (b3.take s)=P at *
 go_wp2_with ((refine zaG rfl (.tmp 12) (.tmp 43) rfl w11.heap.size rfl (s:=(s:Int)) (bs:=P) rfl HP.out NEW.out rfl ?_);intro w12 hb12 hg12;have M12:=hide hb12;have W12:Hid (Below w11.heap.size w11 w12):=hide (((Below.refl _ _).alloc (Nat.le_refl _) _).grown hg12 (by simp) (by simp));clear hb12 hg12;refine Hid.out ?_)
 refine hide ?_
 have S12:=hide (S11.out.over W12.out)
 have D12:=hide (D11.out.over W12.out)
 generalize w11.heap.size=ga at *
 have hU:rdU b s=⟨pad8 t8,s,P,(V:Int)-88,N⟩:=HU.out
 have HW2:=hide HW.out
 rw [hU] at HW2
 have HR:Hid (uroC (rdU b s)=uroC ⟨pad8 t8,s,P,(V:Int)-88,N⟩):=hide (by rw [hU])
 clear NEW S11 D11 W12 hU HU HW
 have H8:=hide (zep t8)
 have H27:=hide (zcB zca)
 generalize pad8 t8=D at *
 go_wp2_with (first
  | (with_reducible refine zjp rfl (.tmp 10) rfl gd rfl D12.out H8.out ?_)
  | (with_reducible refine zaI rfl (.tmp 12) rfl ga rfl M12.out HP.out ?_)
  | (with_reducible refine zd2 rfl (.tmp 46) (.tmp 47) rfl HP.out rfl rfl ?_)
  | (with_reducible refine zhI rfl (.tmp 45) (.tmp 48) (.tmp 49) rfl H8.out HP.out rfl rfl rfl ?_;refine Hid.out ?_))
 refine hide ?_
 go_wp2_with (refine zaS rfl (.tmp 4) (.tmp 50) rfl w.heap.size rfl (u:=⟨D,s,P,(V:Int)-88,N⟩) rfl HW2.out S12.out.r H27.out ?_;intro w13 hb13 hg13;have M13:=hide hb13;have W13:=hide (S12.out.bl.grown hg13 S12.out.bl.size (by simp));clear hb13 hg13;refine Hid.out ?_)
 refine hide ?_
 go_wp2
 refine zuL (p:=4) rfl rfl M13.out HW2.out rfl ?_
 exact ⟨by rw [HR.out],W13.out⟩
end
section
set_option maxRecDepth 20000
open Go.RowKit
theorem zwS (w:World) (lo hi:Nat) (A:Option Addr) (n c:Nat) (b:List UInt8) (k:Int) (h:At w lo hi A n b) (hh:hi≤w.heap.size) (hn:n≤1000) (hz:k=4∨k=16) :
  Calls Tryz.prog 213 #[.slice A n c,.int .i64 k] w fun e w'=>e = .returned (.agg (uroC (rdU b k)))∧Below w.heap.size w w':=by
 rcases hz with rfl | rfl
 ·exact zlL w lo hi A n c b 4 h hh hn (.inl rfl)
 ·exact zlL w lo hi A n c b 16 h hh hn (.inr rfl)
def zcX (w:World) (b:List UInt8) (k:Int) (e:Ending) (w':World):Prop :=
 e = .returned (.tuple #[.agg (uroC (zb5 b k)),.int .i64 (zbc b k:Nat),.int .i64 (zbo b k)])∧Below w.heap.size w w'
theorem zx4 (w:World) (lo hi lo' hi' n m c d:Nat) (A B:Option Addr) (xs ys:List UInt8) (ha:At w lo hi A n xs) (hb:At w lo' hi' B m ys) :
  Calls Tryz.prog 18 #[.slice A n c,.slice B m d] w fun e w'=>e = .returned (.bool (decide (xs=ys)))∧w=w':=zb2 w lo hi lo' hi' n m c d A B xs ys ha hb
section
variable (w:World) (lo hi:Nat) (A:Option Addr) (n c:Nat) (b:List UInt8) (k:Int)
set_option maxHeartbeats 1000000 in
theorem zpw (h:At w lo hi A n b) (hz:¬ (k=4∨k=16)):Calls Tryz.prog 200 #[.slice A n c,.int .i64 k] w (zcX w b k):=by
 obtain ⟨h1,h2,h3⟩:=zpH (b:=b) hz
 unfold zcX
 rw [h1,h2,h3]
 have RES:Hid (Blk (w.alloc (.cells zUro 236)) w.heap.size 236 (uroC zeI)):=hide (by rw [zga];exact Blk.new w _ _)
 have W0:=hide ((Below.refl w.heap.size w).alloc (Nat.le_refl _) (.cells zUro 236))
 have n4:(k != 4)=true:=bne_iff_ne.2 (fun e=>hz (.inl e))
 have n16:(k != 16)=true:=bne_iff_ne.2 (fun e=>hz (.inr e))
 clear h hz h1 h2 h3
 go_enter Tryz.func200,Tryz.ntmps200
 go_wp2_with (with_reducible refine zbJ rfl rfl ?_;refine Hid.out ?_)
 refine hide ?_
 generalize hw0:w.alloc (.cells zUro 236)=w0 at RES W0 ⊢
 clear hw0
 go_wp2_with ((refine zaS rfl (.tmp 4) (.tmp 16) rfl w.heap.size rfl (u:=zeI) rfl zca RES.out (zcB zca) ?_;intro w9 hb9 hg9;have M9:=hide hb9;have HG9:=hide hg9;clear hb9 hg9;refine Hid.out ?_))
 refine hide ?_
 go_wp2
 refine zfk (p:=4) (q:=5) (r:=6) (v:=.int .i64 0) (u:=.int .i64 1) rfl rfl rfl rfl M9.out zca rfl ?_
 exact ⟨rfl,W0.out.grown HG9.out W0.out.size (by simp)⟩
set_option maxHeartbeats 2000000 in
theorem znb (h:At w lo hi A n b) (hh:hi≤w.heap.size) (hnn:n≤10000000000000) (hz:k=4∨k=16) (hs:b.length<lenU b):Calls Tryz.prog 200 #[.slice A n c,.int .i64 k] w (zcX w b k):=by
 have hz0:=hz
 rcases hz0 with rfl | rfl
 all_goals
  obtain ⟨h1,h2,h3⟩:=znj hz hs
  unfold zcX
  rw [h1,h2,h3]
  have RES:Hid (Blk (w.alloc (.cells zUro 236)) w.heap.size 236 (uroC zeI)):=hide (by rw [zga];exact Blk.new w _ _)
  have W0:=hide ((Below.refl w.heap.size w).alloc (Nat.le_refl _) (.cells zUro 236))
  have HA:=hide (h.alloc hh (.cells zUro 236))
  have hn:=h.len
  clear h hz h1 h2 h3
  rcases Nat.lt_or_ge n 1 with hlt | hge
  ·have hlt2:(n:Int)<1:=by omega
   clear hs hn HA
   go_enter Tryz.func200,Tryz.ntmps200
   go_wp2_with (with_reducible refine zbJ rfl rfl ?_;refine Hid.out ?_)
   refine hide ?_
   generalize hw0:w.alloc (.cells zUro 236)=w0 at RES W0 ⊢
   clear hw0
   go_wp2_with ((refine zaS rfl (.tmp 4) (.tmp 31) rfl w.heap.size rfl (u:=zeI) rfl zca RES.out (zcB zca) ?_;intro w9 hb9 hg9;have M9:=hide hb9;have HG9:=hide hg9;clear hb9 hg9;refine Hid.out ?_))
   refine hide ?_
   go_wp2
   refine zfk (p:=4) (q:=5) (r:=6) (v:=.int .i64 0) (u:=.int .i64 3) rfl rfl rfl rfl M9.out zca rfl ?_
   exact ⟨rfl,W0.out.grown HG9.out W0.out.size (by simp)⟩
  ·obtain ⟨bb,oo,x,rfl,hx,hcx⟩:=HA.out.at_ (show 0<n by omega)
   rw [Nat.add_zero] at hcx
   have hgx:lenU b=1+(x.toNat+7)/8:=by unfold lenU nU;rw [List.getD_eq_getElem?_getD,hx];rfl
   rw [hgx,hn] at hs
   have hx2:=x.toNat_lt
   obtain ⟨q,hq⟩:∃ q,(x.toNat+7)/8=q:=⟨_,rfl⟩
   rw [hq] at hs
   have HQ:=hide hq
   have hlt:(n:Int)-1<(q:Int):=by omega
   have hge2:¬ ((n:Int)<1):=by omega
   clear hs hn hgx hx HA hq
   go_enter Tryz.func200,Tryz.ntmps200
   go_wp2_with fail
   generalize hw0:w.alloc (.cells zUro 236)=w0 at RES W0 hcx ⊢
   clear hw0
   refine (zgb w0 x.toNat (by omega)).mono ?_
   rw [HQ.out]
   rintro e w1 ⟨rfl,rfl⟩
   go_wp2_with (with_reducible refine zbJ rfl rfl ?_;refine Hid.out ?_)
   refine hide ?_
   go_wp2_with ((refine zaS rfl (.tmp 4) (.tmp 31) rfl w.heap.size rfl (u:=zeI) rfl zca RES.out (zcB zca) ?_;intro w9 hb9 hg9;have M9:=hide hb9;have HG9:=hide hg9;clear hb9 hg9;refine Hid.out ?_))
   refine hide ?_
   go_wp2
   refine zfk (p:=4) (q:=5) (r:=6) (v:=.int .i64 0) (u:=.int .i64 3) rfl rfl rfl rfl M9.out zca rfl ?_
   exact ⟨rfl,W0.out.grown HG9.out W0.out.size (by simp)⟩
set_option maxHeartbeats 4000000 in
theorem zpx (h:At w lo hi A n b) (hh:hi≤w.heap.size) (hc:n≤c) (hnn:n≤10000000000000) (hz:k=4∨k=16) (hs:lenU b≤b.length):Calls Tryz.prog 200 #[.slice A n c,.int .i64 k] w (zcX w b k):=by
 obtain ⟨p1,p2,p3⟩:=zpI hz hs
 have X:=hide (rdU_W (b:=b.take (lenU b)) hz)
 have hn:=h.len
 obtain ⟨cb,hcb⟩:∃ cb,b.take (lenU b)=cb:=⟨_,rfl⟩
 rw [hcb] at p1 p2 p3 X
 obtain ⟨r,hr⟩:∃ r,rdU cb k=r:=⟨_,rfl⟩
 have hok:okU cb k=(zbH r&&decide (zcc r=cb)):=by unfold okU;rw [hr]
 have HRD:Hid (∀ (x:World) (B:Option Addr) (m:Nat),At x lo hi B m cb→hi≤x.heap.size→m≤1000→Calls Tryz.prog 213 #[.slice B m c,.int .i64 k] x fun e w'=>e = .returned (.agg (uroC r))∧Below x.heap.size x w'):=hide (fun x B m h1 h2 h3=>by
  rw [← hr]
  exact zwS x lo hi B m c cb k h1 h2 h3 hz)
 rw [hr] at p2 X
 rw [hok] at p1 p2 p3
 have HP1:=hide p1
 have HP2:=hide p2
 have HP3:=hide p3
 have RES:Hid (Blk (w.alloc (.cells zUro 236)) w.heap.size 236 (uroC zeI)):=hide (by rw [zga];exact Blk.new w _ _)
 have W0:=hide ((Below.refl w.heap.size w).alloc (Nat.le_refl _) (.cells zUro 236))
 have HA:=hide (h.alloc hh (.cells zUro 236))
 have hh0:hi≤(w.alloc (.cells zUro 236)).heap.size:=Nat.le_trans hh W0.out.size
 have hl33:=zxS b
 have hl1:1≤lenU b:=by unfold lenU;omega
 obtain ⟨bb,oo,x,rfl,hx,hcx⟩:=HA.out.at_ (show 0<n by omega)
 rw [Nat.add_zero] at hcx
 have hgx:lenU b=1+(x.toNat+7)/8:=by unfold lenU nU;rw [List.getD_eq_getElem?_getD,hx];rfl
 have hx2:=x.toNat_lt
 obtain ⟨q,hq⟩:∃ q,(x.toNat+7)/8=q:=⟨_,rfl⟩
 rw [hq] at hgx
 have HQ:=hide hq
 have HL:=hide hgx
 have AC:=hide (HA.out.head (show lenU b≤n by omega))
 rw [hcb,HL.out] at AC
 have hlt:¬ ((n:Int)-1<(q:Int)):=by omega
 have hge2:¬ ((n:Int)<1):=by omega
 have hqc:((1:Int)+(q:Int)).toNat=1+q:=by omega
 have hq1:q≤32:=by omega
 have hqn:1+q≤n:=by omega
 have HZ:=hide hz
 clear h hz hs hn hx HA hq hgx hcb p1 p2 p3 hl1 hl33 hr hok
 rcases HZ.out with rfl | rfl
 all_goals
  clear HZ
  go_enter Tryz.func200,Tryz.ntmps200
  go_wp2_with fail
  generalize hw0:w.alloc (.cells zUro 236)=w0 at RES W0 hcx hh0 AC ⊢
  clear hw0
  refine (zgb w0 x.toNat (by omega)).mono ?_
  rw [HQ.out]
  rintro e w1 ⟨rfl,rfl⟩
  go_wp2_with fail
  refine (zgb w0 x.toNat (by omega)).mono ?_
  rw [HQ.out]
  rintro e w1 ⟨rfl,rfl⟩
  clear hcx
  go_wp2_with fail
  refine (HRD.out w0 _ _ AC.out hh0 (by omega)).mono ?_
  rintro e w2 ⟨rfl,hb2⟩
  have RES2:=hide (RES.out.over hb2)
  have W2:=hide (zaa W0.out hb2 (Nat.le_refl _))
  have AC2:=hide (AC.out.below (hb2.mono hh0))
  have hh2:=Nat.le_trans hh0 hb2.size
  have NEW:=hide (Blk.new w2 236 zUro)
  clear hb2 RES W0 AC
  go_wp2_with (refine zaS rfl (.tmp 7) (.tmp 42) rfl w2.heap.size rfl (u:=r) rfl X.out NEW.out rfl ?_;intro w3 hb3 hg3;have M3:=hide hb3;have W23:Hid (Below w2.heap.size w2 w3):=hide (((Below.refl _ _).alloc (Nat.le_refl _) _).grown hg3 (by simp) (by simp));clear hb3 hg3;refine Hid.out ?_)
  refine hide ?_
  clear NEW
  have RES3:=hide (RES2.out.over W23.out)
  have W3:=hide (zaa W2.out W23.out (Nat.le_refl _))
  have AC3:=hide (AC2.out.below (W23.out.mono hh2))
  have hh3:=Nat.le_trans hh2 W23.out.size
  clear RES2 W2 AC2 hh2 W23
  generalize w2.heap.size=g7 at *
  go_wp2_with (with_reducible refine zbE rfl (.tmp 7) rfl g7 rfl M3.out X.out ?_)
  refine (zjX w3 r X.out).mono ?_
  rintro e w4 ⟨v4,rfl,ho4,hb4⟩
  obtain ⟨A4,c4,rfl,_,_⟩:=zag ho4
  have OA:=hide (At.own ho4)
  have RES4:=hide (RES3.out.over hb4)
  have W4:=hide (zaa W3.out hb4 (Nat.le_refl _))
  have AC4:=hide (AC3.out.below (hb4.mono hh3))
  have M4:=hide (M3.out.over hb4)
  clear ho4 hb4 RES3 W3 AC3 M3
  have hoE:Hid (errU r=if zbH r=true then 0 else 1):=hide rfl
  have hoB:Hid (zfE r=if zbH r=true then zcc r else []):=hide rfl
  generalize errU r=er at *
  generalize zfE r=ob at *
  cases c1:zbH r
  ·have HF:Hid ((zbH r&&decide (zcc r=cb))=false):=hide (by rw [c1];rfl)
   obtain rfl:er=1:=by rw [hoE.out,c1];rfl
   clear c1
   go_wp2_with (with_reducible refine zbJ rfl rfl ?_;refine Hid.out ?_)
   refine hide ?_
   go_wp2_with ((refine zaS rfl (.tmp 4) (.tmp 56) rfl w.heap.size rfl (u:=zeI) rfl zca RES4.out (zcB zca) ?_;intro w9 hb9 hg9;have M9:=hide hb9;have HG9:=hide hg9;clear hb9 hg9;refine Hid.out ?_))
   refine hide ?_
   go_wp2
   refine zfk (p:=4) (q:=5) (r:=6) (v:=.int .i64 0) (u:=.int .i64 4) rfl rfl rfl rfl M9.out zca rfl ?_
   unfold zcX
   rw [HP1.out,HP2.out,HP3.out,HF.out,if_neg (by decide),if_neg (by decide),if_neg (by decide)]
   exact ⟨rfl,W4.out.grown HG9.out W4.out.size (by simp)⟩
  ·obtain rfl:er=0:=by rw [hoE.out,c1];rfl
   obtain rfl:ob=zcc r:=by rw [hoB.out,c1];rfl
   clear hoE hoB
   go_wp2_with fail
   refine (zx4 w4 _ _ _ _ _ _ c4 c A4 _ _ _ OA.out AC4.out).mono ?_
   rintro e w5 ⟨rfl,rfl⟩
   cases c2:decide (zcc r=cb)
   ·have HF:Hid ((zbH r&&decide (zcc r=cb))=false):=hide (by rw [c2];simp)
    clear c1 c2
    go_wp2_with (with_reducible refine zbJ rfl rfl ?_;refine Hid.out ?_)
    refine hide ?_
    go_wp2_with ((refine zaS rfl (.tmp 4) (.tmp 56) rfl w.heap.size rfl (u:=zeI) rfl zca RES4.out (zcB zca) ?_;intro w9 hb9 hg9;have M9:=hide hb9;have HG9:=hide hg9;clear hb9 hg9;refine Hid.out ?_))
    refine hide ?_
    go_wp2
    refine zfk (p:=4) (q:=5) (r:=6) (v:=.int .i64 0) (u:=.int .i64 4) rfl rfl rfl rfl M9.out zca rfl ?_
    unfold zcX
    rw [HP1.out,HP2.out,HP3.out,HF.out,if_neg (by decide),if_neg (by decide),if_neg (by decide)]
    exact ⟨rfl,W4.out.grown HG9.out W4.out.size (by simp)⟩
   ·have HF:Hid ((zbH r&&decide (zcc r=cb))=true):=hide (by rw [c1,c2];rfl)
    clear c1 c2
    go_wp2_with (with_reducible refine zbE rfl (.tmp 7) rfl g7 rfl M4.out X.out ?_;refine Hid.out ?_)
    refine hide ?_
    go_wp2_with ((refine zaS rfl (.tmp 4) (.tmp 57) rfl w.heap.size rfl (u:=r) rfl X.out RES4.out (zcB zca) ?_;intro w9 hb9 hg9;have M9:=hide hb9;have HG9:=hide hg9;clear hb9 hg9;refine Hid.out ?_))
    refine hide ?_
    go_wp2
    refine zfk (p:=4) (q:=5) (r:=6) (v:=.int .i64 ((1+q:Nat):Int)) (u:=.int .i64 0) rfl rfl (by first | rfl | simp) rfl M9.out X.out rfl ?_
    unfold zcX
    rw [HP1.out,HP2.out,HP3.out,HF.out,if_pos rfl,if_pos rfl,if_pos rfl,HL.out]
    exact ⟨rfl,W4.out.grown HG9.out W4.out.size (by simp)⟩
theorem zlG (h:At w lo hi A n b) (hh:hi≤w.heap.size) (hc:n≤c) (hnn:n≤10000000000000):Calls Tryz.prog 200 #[.slice A n c,.int .i64 k] w (zcX w b k):=by
 by_cases hz:k=4∨k=16
 ·rcases Nat.lt_or_ge b.length (lenU b) with hs | hs
  ·exact znb w lo hi A n c b k h hh hnn hz hs
  ·exact zpx w lo hi A n c b k h hh hc hnn hz hs
 ·exact zpw w lo hi A n c b k h hz
end
end
end Go.Proofs.YtjindligkhdddaaGreatDoor
