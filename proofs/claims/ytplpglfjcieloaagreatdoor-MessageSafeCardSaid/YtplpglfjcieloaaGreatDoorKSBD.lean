/-
  What Right, holding and Bytes of package uroute do, in whatever memory. No condition beyond sizes that fit memory.
  What read and Take of package uroute do, in whatever memory. No condition beyond sizes that fit memory.
  What Take of package uroute does, in whatever memory. No condition beyond sizes that fit memory.
-/
import Derived.Test.YtplpglfjcieloaaGreatDoorKSBC
set_option linter.unusedVariables false
set_option linter.unusedSimpArgs false
namespace Go.Proofs.YtplpglfjcieloaaGreatDoor
open Tryz
section
set_option maxRecDepth 20000
open Go.RowKit
set_option maxHeartbeats 1000000 in
theorem zg5 (w:World) (u:Ur) (hu:u.W) :
  Calls prog 156 #[.agg (uroC u)] w fun e w'=>e = .returned (.bool (zbI u))∧Below w.heap.size w w':=by
 have W0:=hD ((Below.refl w.heap.size w).alloc lr (.cells (uroC u) 191))
 have HB:=hD (Blk.new w 191 (uroC u))
 have HU:=hD hu
 have kl:=zkg hu HB.o
 clear hu
 by_cases hl:0≤u.lab∧u.lab≤1048575
 ·have HR:Hid (zbI u=zpn u.s u.bs u.k):=hD (by unfold zbI;rw [decide_eq_true hl,Bool.and_true])
  obtain ⟨n,hn⟩:∃ n:Nat,u.lab=(n:Int):=⟨u.lab.toNat,by omega⟩
  have hn':n≤1048575:=by omega
  rw [hn] at kl
  clear hl hn
  go_enter func156,ntmps156
  go_wp2_with fail
  refine (zgV _ n true hn').mono ?_
  rintro e w1 ⟨v,rfl,ho,hb⟩
  have B1:=hD (HB.o.over hb)
  have W1:=hD (zaa W0.o hb lr)
  clear ho hb
  go_wp2_with (first
   | ((with_reducible refine zf3 ?_ (.tmp 14) rfl w.heap.size 8 rfl (uro_p HU.o B1.o) HU.o.bs ?_);· rfl)
   | ((with_reducible refine zaM ?_ (.tmp 17) rfl w.heap.size 8 rfl (uro_a HU.o B1.o) HU.o.bs ?_);· rfl))
  refine (zyh _ u.s u.k u.bs HU.o.bs u.s u.bs HU.o.bs HU.o.s).mono ?_
  rintro e w2 ⟨rfl,hb2⟩
  go_wp2
  go_ret
  exact ⟨by rw [HR.o];rfl,zaa W1.o hb2 lr⟩
 ·have HR:Hid (zbI u=false):=hD (by unfold zbI;rw [decide_eq_false hl,Bool.and_false])
  have hl':u.lab<0∨1048575<u.lab:=by omega
  clear hl
  go_enter func156,ntmps156
  go_wp2_with fail
  refine (zwa _ u.lab true hl').mono ?_
  rintro e w1 ⟨rfl,rfl⟩
  go_wp2
  go_ret
  exact ⟨by rw [HR.o];rfl,W0.o⟩
theorem zgt (w:World) (q:Nat) (hq:q≤1000000):Calls prog 206 #[.int .i64 (q:Int)] w fun e w'=>e = .returned (.int .i64 (((q+7)/8:Nat):Int))∧w=w':=by
 go_enter func206,ntmps206
 go_wp2
 go_ret
 refine ⟨?_,rfl⟩
 congr 2
theorem zfq.wide {w:World} {hi hj:Nat} {arr:Array Value} {L:List (List UInt8)} (h:zfq w hi arr L) (hh:hi≤hj):zfq w hj arr L:=fun j x hx=>by
 obtain ⟨A,n,c,h1,h2⟩:=h j x hx
 exact ⟨A,n,c,h1,h2.more lr hh⟩
theorem u8_of {q:Nat} (h:88+q<256):(88+(q:Int))=((UInt8.ofNat (88+q)).toNat:Int):=by
 have h:(UInt8.ofNat (88+q)).toNat=88+q:=by simp;omega
 rw [h]
 omega
theorem zoG {u:Ur} {q n:Nat} (hq:u.k=q) (hn:u.lab=n):zcg u=[[UInt8.ofNat (88+q)],zdA n true,u.rd,u.bs.take ((q+7)/8)].flatten:=by
 unfold zcg plen
 rw [hq,hn,Int.toNat_natCast,Int.toNat_natCast]
 simp
set_option maxHeartbeats 2000000 in
theorem zki (w:World) (u:Ur) (hu:u.W) :
  Calls prog 185 #[.agg (uroC u)] w fun e w'=>∃ v,e = .returned (.tuple #[v,.int .i64 (errU u)])∧w'.ownsRow w.heap.size 5 1 v (zfZ u).length (bvs (zfZ u))∧Below w.heap.size w w':=by
 have W0:=hD ((Below.refl w.heap.size w).alloc lr (.cells (uroC u) 191))
 have HB:=hD (Blk.new w 191 (uroC u))
 have HU:=hD hu
 clear hu
 cases hr:zbI u
 ·have HE:Hid (errU u=1):=hD (by unfold errU;rw [hr];rfl)
  have HO:Hid (zfZ u=[]):=hD (by unfold zfZ;rw [hr];rfl)
  have HR:=hD hr
  clear hr
  go_enter func185,ntmps185
  go_wp2_with (with_reducible refine zbF rfl (.tmp 1) rfl w.heap.size rfl HB.o HU.o ?_)
  refine (zg5 _ u HU.o).mono ?_
  rw [HR.o]
  rintro e w1 ⟨rfl,hb1⟩
  have W1:=hD (zaa W0.o hb1 lr)
  clear hb1
  go_wp2
  go_ret2
  refine ⟨.slice none 0 0,?_,?_,W1.o⟩
  ·rw [HE.o];rfl
  ·rw [HO.o];exact World.ownsRow_nil _ _ _ _
 ·have R:=(zfw u).1 hr
  obtain ⟨q,hq⟩:∃ q:Nat,u.k=(q:Int):=⟨u.k.toNat,by have:=R.k;omega⟩
  obtain ⟨n,hn⟩:∃ n:Nat,u.lab=(n:Int):=⟨u.lab.toNat,by have:=R.lab;omega⟩
  obtain ⟨s,hs⟩:∃ s:Nat,u.s=(s:Int):=⟨u.s.toNat,by have:=R.sz;omega⟩
  have hq8:q≤8*s:=by have:=R.k;omega
  have hs4:s=4∨s=16:=by have:=R.sz;omega
  have hn':n≤1048575:=by have:=R.lab;omega
  have HCODE:=hD (zoG hq hn)
  have HBY:Hid (zav u.s u.bs=u.bs.take s):=hD (by unfold zav;rw [if_pos R.a,hs,Int.toNat_natCast])
  have HE:Hid (errU u=0):=hD (by unfold errU;rw [hr];rfl)
  have HO:Hid (zfZ u=zcg u):=hD (by unfold zfZ;rw [hr];rfl)
  have HLS:Hid (((u.bs.take s).length:Nat)=s):=hD (by rw [List.length_take,HU.o.bs];omega)
  have HQ:=hD hq
  have HN:=hD hn
  have HR:=hD hr
  clear hr R hq hn hs
  go_enter func185,ntmps185
  go_wp2_with (with_reducible refine zbF rfl (.tmp 1) rfl w.heap.size rfl HB.o HU.o ?_)
  refine (zg5 _ u HU.o).mono ?_
  rw [HR.o]
  rintro e w1 ⟨rfl,hb1⟩
  have B1:=hD (HB.o.over hb1)
  have W1:=hD (zaa W0.o hb1 lr)
  have k25:=zpT HU.o B1.o
  rw [HQ.o] at k25
  have k26:(w1.alloc (.cells #[.int .u8 (88+(q:Int))] 5)).cell? ⟨w.heap.size,26,none⟩=some (.int .i64 (n:Int)):=by
   have h:=zkg HU.o (B1.o.alloc (.cells #[.int .u8 (88+(q:Int))] 5))
   rw [HN.o] at h
   exact h
  have h256:(88+(q:Int))<256:=by omega
  clear hb1
  go_wp2_with fail
  refine (zgV _ n true hn').mono ?_
  rintro e w2 ⟨v2,rfl,ho2,hb2⟩
  obtain ⟨A2,c2,rfl,_,_⟩:=zag ho2
  have hz1:(w1.alloc (.cells #[.int .u8 (88+(q:Int))] 5)).heap.size=w1.heap.size+1:=by simp
  have O2:=hD ((At.own ho2).more (lo':=0) (hi':=w2.heap.size) (Nat.zero_le _) lr)
  have OH:=hD (((zhP w1 (88+(q:Int)) 5 (UInt8.ofNat (88+q)) (u8_of (by omega))).below (hb2.mono (by omega))).more (lo':=0) (hi':=w2.heap.size) (Nat.zero_le _) (by have:=hb2.size;omega))
  have B2:=hD ((B1.o.alloc (.cells #[.int .u8 (88+(q:Int))] 5)).over hb2)
  have W2:=hD (zaa (W1.o.alloc W1.o.size (.cells #[.int .u8 (88+(q:Int))] 5)) hb2 lr)
  have HC25:Hid ((uroC u)[25]?=some (.int .i64 (q:Int))):=hD (by have h:=zwv HU.o;rw [HQ.o] at h;exact h)
  have hp:(q+7)/8≤s:=by omega
  have hs0:0<s:=by omega
  clear hb2 ho2 hz1 k25 k26 B1 HB
  go_wp2_with fail
  refine wp_region_held_drew (S:=fun x=>Blk x w.heap.size 191 (uroC u)∧Below w2.heap.size w2 x) (by kernel_rfl) ⟨B2.o.drew,zaj (Below.refl _ _)⟩ (fun hHeld=>?_)
  refine rgT 0 ?_
  refine rgT 1 ?_
  refine rgV 2 (.agg (zaq u.s u.bs)) ?_ ?_
  ·(intro w' hSw;exact za8 (.tmp 24) rfl w.heap.size 8 rfl (uro_a HU.o hSw.1) HU.o.bs)
  refine rgT 4 ?_
  refine rgT 5 ?_
  refine rgK 6 (fun w' hSw=>(hSw.1.cell 25).trans HC25.o) ?_
  refine zal (i:=3) rfl (by kernel_rfl) (by rfl) (zc0 _ u.s u.bs HU.o.bs) (fun w=>by kernel_rfl) ?_
  rintro e w3 ⟨v3,rfl,ho3,hb3⟩
  rw [HBY.o,HLS.o] at ho3
  obtain ⟨A3,c3,rfl,hc3,_⟩:=zag ho3
  have O3:=hD (At.own ho3)
  obtain ⟨bb,oo,_,rfl,_,_⟩:=O3.o.at_ hs0
  have hpc:(q+7)/8≤c3:=by omega
  refine ⟨_,rfl,⟨hHeld.1.below hb3 hHeld.1.lt,zaa hHeld.2 hb3 lr⟩,fun hHeld=>?_⟩
  refine rgN ?_
  refine zal (i:=7) rfl (by kernel_rfl) (by rfl) (zgt _ q (by omega)) (fun w=>by kernel_rfl) ?_
  rintro e w4 ⟨rfl,rfl⟩
  refine ⟨_,rfl,hHeld,fun hHeld=>?_⟩
  refine rgN ?_
  refine rgV 8 (.slice (some ⟨bb,oo,none⟩) ((q+7)/8) c3) ?_ ?_
  ·(intro w' hSw;exact zlF w' (.tmp 26) (.tmp 30) 22 5 rfl underlying22 (fun w=>sizeOf5 w) rfl rfl hpc)
  refine rgT 9 ?_
  refine wpAnyH_done (by kernel_rfl) ?_ _
  have B3:=hD hHeld.1
  have W3:=hD (zaa W2.o hHeld.2 lr)
  have G3:=hD ((O3.o.head hp).more (lo':=0) (hi':=w3.heap.size) (Nat.zero_le _) lr)
  have F2:=hD ((O2.o.below hHeld.2).more (lo':=0) (hi':=w3.heap.size) lr hHeld.2.size)
  have F1:=hD ((OH.o.below hHeld.2).more (lo':=0) (hi':=w3.heap.size) lr hHeld.2.size)
  have htk:(u.bs.take s).take ((q+7)/8)=u.bs.take ((q+7)/8):=by rw [List.take_take,Nat.min_eq_left hp]
  rw [htk] at G3
  have D3:=hD ((At.uro HU.o hHeld.1).more (lo':=0) (hi':=w3.heap.size) (Nat.zero_le _) hHeld.1.lt)
  have R4:=hD (zqg (c1:=1) (c2:=c2) (c3:=8) (c4:=c3) F1.o F2.o D3.o G3.o)
  have hsum:([[UInt8.ofNat (88+q)],zdA n true,u.rd,u.bs.take ((q+7)/8)]:List (List UInt8)).flatten.length≤140737488351000:=by
   simp only [List.flatten_cons,List.flatten_nil,List.length_append,List.length_cons,List.length_nil,zgS,HU.o.rd,List.length_take,HU.o.bs]
   omega
  have HSUM:=hD hsum
  clear hHeld ho3 hb3 hsum htk O3 O2 OH B2 W2 F1 F2 D3 G3
  go_wp2_with fail
  refine (zco _ w3.heap.size 22 _ [[UInt8.ofNat (88+q)],zdA n true,u.rd,u.bs.take ((q+7)/8)] 4 rfl (by decide) (Blk.new w3 _ _) (R4.o.below ((Below.refl w3.heap.size w3).alloc lr _) |>.wide (by simp)) HSUM.o).mono ?_
  rw [← HCODE.o]
  rintro e w5 ⟨v5,rfl,ho5,hb5⟩
  go_wp2
  go_ret2
  refine ⟨v5,?_,?_,zaa (W3.o.alloc W3.o.size _) hb5 lr⟩
  ·rw [HE.o];rfl
  ·rw [HO.o];exact zaC ho5 (Nat.le_trans W3.o.size (by simp))
end
section
open Go.RowKit
structure UrS (w x:World) (B g:Nat) (bs:List UInt8):Prop where
 r:Blk x w.heap.size 191 (uroC zeX)
 bl:Below w.heap.size w x
 hB:w.heap.size<B
 hg:B≤g
 d:∃ bad,Rd x B g bs bad
theorem UrS.over {w x y:World} {B g:Nat} {bs:List UInt8} (h:UrS w x B g bs) (hb:Below x.heap.size x y):UrS w y B g bs:=by
 obtain ⟨bad,hd⟩:=h.d
 exact ⟨h.r.over hb,zaa h.bl hb lr,h.hB,h.hg,bad,hd.below hb hd.lt⟩
theorem UrS.took {w x y:World} {B g:Nat} {bs bs':List UInt8} {bad:Bool} (h:UrS w x B g bs) (hg:x.grownBy y (some g)) (hd:Rd y B g bs' bad):UrS w y B g bs' :=
 ⟨h.r.grown hg (fun e=>by have h1:=h.hB;have h2:=h.hg;injection e;omega),h.bl.grown hg h.bl.size (fun k hk=>by have h1:=h.hB;have h2:=h.hg;injection hk;omega),h.hB,h.hg,bad,hd⟩
theorem UrS.other {w x y:World} {B g q:Nat} {bs:List UInt8} (h:UrS w x B g bs) (hg:x.grownBy y (some q)) (hq:g<q):UrS w y B g bs:=by
 obtain ⟨bad,hd⟩:=h.d
 exact ⟨h.r.grown hg (fun e=>by have h1:=h.hB;have h2:=h.hg;injection e;omega),h.bl.grown hg h.bl.size (fun k hk=>by have h1:=h.hB;have h2:=h.hg;injection hk;omega),h.hB,h.hg,bad,hd.keep hg (fun k hk=>by injection hk;exact .inr (by omega))⟩
theorem UrS.glt {w x:World} {B g:Nat} {bs:List UInt8} (h:UrS w x B g bs):g<x.heap.size:=by
 obtain ⟨bad,hd⟩:=h.d
 exact hd.lt
theorem Blk.took {x y:World} {g q:Nat} {t:TypeId} {cs:Array Value} (h:Blk x q t cs) (hg:x.grownBy y (some g)) (hq:g<q):Blk y q t cs:=h.grown hg (fun e=>by injection e;omega)
theorem zrf (R:List UInt8) (s:Nat):(bvs R).take s++(List.replicate s (.int .u8 0:Value)).drop (min R.length s)=bvs (zjp R s):=by
 unfold zjp
 rw [zdE,List.drop_replicate]
 unfold bvs
 rw [List.map_take,List.map_replicate]
 have h3:s-min R.length s=s-R.length:=by omega
 rw [h3]
 rfl
set_option maxRecDepth 20000 in
set_option maxHeartbeats 2000000 in
theorem zmd (w:World) (lo hi:Nat) (A:Option Addr) (n c:Nat) (b:List UInt8) (s:Nat) (h:At w lo hi A n b) (hh:hi≤w.heap.size) (hn:n≤1000) (hs:s=4∨s=16) :
  Calls prog 209 #[.slice A n c,.int .i64 (s:Int)] w fun e w'=>e = .returned (.agg (uroC (rdU b s)))∧Below w.heap.size w w':=by
 have W0:=hD ((Below.refl w.heap.size w).alloc lr (.cells zUro 191))
 have RES:Hid (Blk (w.alloc (.cells zUro 191)) w.heap.size 191 (uroC zeX)):=hD (by rw [zgs];exact Blk.new w _ _)
 have HA:=hD (h.alloc hh (.cells zUro 191))
 have hs0:(w.alloc (.cells zUro 191)).heap.size=w.heap.size+1:=by simp
 have hbl:b.length≤1000:=by rw [h.len];exact hn
 have HW:=hD (rdU_W (b:=b) (size:=(s:Int)) (by omega))
 obtain ⟨i0,hi0,hz0,hz1,hz2⟩:=info_parts zbK
 have hv:zap b 1<256:=by rw [(zfF b).1];exact (b.getD 0 0).toNat_lt
 obtain ⟨V,hV⟩:∃ V,zap b 1=V:=⟨_,rfl⟩
 obtain ⟨b1,hb1⟩:∃ b1,zaf b 1=b1:=⟨_,rfl⟩
 have hb1l:b1.length≤1000:=by rw [← hb1,(zfF b).2,List.length_drop];omega
 obtain ⟨t3,ht3⟩:∃ t3,zab b1 3=t3:=⟨_,rfl⟩
 obtain ⟨b2,hb2⟩:∃ b2,zae b1 3=b2:=⟨_,rfl⟩
 obtain ⟨t8,ht8⟩:∃ t8,zab b2 8=t8:=⟨_,rfl⟩
 obtain ⟨b3,hb3⟩:∃ b3,zae b2 8=b3:=⟨_,rfl⟩
 have HU:Hid (rdU b s=⟨pad8 t8,s,pad (b3.take s),(V:Int)-88,zd6 t3⟩):=hD (by
  unfold rdU zxJ
  rw [hb1,hb2,hb3,ht8,ht3,hV,Int.toNat_natCast])
 have hb3l:b3.length≤1000:=by
  rw [← hb3,← hb2]
  have h1:∀ (l:List UInt8) (k:Int),(zae l k).length≤l.length:=fun l k=>by
   unfold zae;split
   ·rw [List.length_drop];omega
   ·exact Nat.zero_le _
  exact Nat.le_trans (h1 _ _) (Nat.le_trans (h1 _ _) hb1l)
 have ht3l:t3.length≤1000:=by rw [← ht3];exact Nat.le_trans (ziH _ _) hb1l
 rw [hV] at hv
 have E1:=hD hb1
 have EV:=hD hV
 have E3:=hD ht3
 have E2:=hD hb2
 have E8:=hD ht8
 have E4:=hD hb3
 have HS:=hD hs
 clear h hV hb1 ht3 hb2 ht8 hb3 hs
 go_enter func209,ntmps209
 go_wp2_with fail
 generalize hw0:w.alloc (.cells zUro 191)=w0 at HA RES W0 hs0 ⊢
 clear hw0
 refine (zbw w0 lo hi A n c b HA.o (by omega) (by omega)).mono ?_
 rintro e w1 ⟨g,rfl,hg,hr1,hbe1⟩
 have S1:=hD (show UrS w w1 w0.heap.size g b from ⟨RES.o.over hbe1,zaa W0.o hbe1 lr,by omega,hg,_,hr1⟩)
 have hBw:w.heap.size<w0.heap.size:=by omega
 generalize w0.heap.size=B at *
 clear hr1 hbe1 HA RES W0 hs0 hh
 obtain ⟨bad1,R1⟩:=S1.o.d
 go_wp2_with fail
 refine (zaW w1 B g b bad1 R1 1 (by decide)).mono ?_
 rintro e w2 ⟨rfl,hr2,hg2⟩
 rw [E1.o] at hr2
 rw [EV.o]
 have S2:=hD (S1.o.took hg2 hr2)
 clear hr2 hg2 S1 R1
 obtain ⟨bad2,R2⟩:=S2.o.d
 go_wp2_with fail
 refine (zaR w2 B g b1 bad2 R2 3 (by decide)).mono ?_
 rw [E3.o,E2.o]
 rintro e w3 ⟨v3,rfl,ho3,hr3,hg3⟩
 have S3:=hD (S2.o.took hg3 hr3)
 obtain ⟨A3,c3,rfl,_,_⟩:=zag ho3
 have O3:=hD (At.own ho3)
 clear ho3 hr3 hg3 S2 R2
 go_wp2_with fail
 refine (zpi w3 A3 _ c3 t3 O3.o lr (by omega)).mono ?_
 obtain ⟨N,hN⟩:∃ N,zd6 t3=N:=⟨_,rfl⟩
 rw [hN] at HU
 rw [hN]
 rintro e w4 ⟨rfl,hbe4⟩
 have S4:=hD (S3.o.over hbe4)
 clear hbe4 S3 O3 hN
 generalize zfA t3=L3
 generalize zhe t3=X3
 have S5:=hD (S4.o.over ((Below.refl w4.heap.size w4).alloc lr (.cells #[.int .u8 0,.int .u8 0,.int .u8 0,.int .u8 0,.int .u8 0,.int .u8 0,.int .u8 0,.int .u8 0] 184)))
 have D5:Hid (Blk (w4.alloc (.cells #[.int .u8 0,.int .u8 0,.int .u8 0,.int .u8 0,.int .u8 0,.int .u8 0,.int .u8 0,.int .u8 0] 184)) w4.heap.size 184 (bvs zdh).toArray):=hD (Blk.new w4 _ _)
 have hg4:=S4.o.glt
 go_wp2_with fail
 generalize hw5:w4.alloc (.cells #[.int .u8 0,.int .u8 0,.int .u8 0,.int .u8 0,.int .u8 0,.int .u8 0,.int .u8 0,.int .u8 0] 184)=w5 at S5 D5 ⊢
 generalize w4.heap.size=gd at *
 clear hw5 S4
 refine wp_region_held_drew (S:=fun x=>Below w.heap.size w x) (by kernel_rfl) (zaj S5.o.bl) (fun hHeld=>?_)
 refine rgT 0 ?_
 refine rgT 1 ?_
 obtain ⟨bad5,R5⟩:=S5.o.d
 refine zal (i:=2) rfl (by kernel_rfl) (by rfl) (zaR _ B g b2 bad5 (R5.keep (zaz (zad w5 none)) (by simp)) 8 (by decide)) (fun w=>by kernel_rfl) ?_
 rw [E8.o,E4.o]
 rintro e w6 ⟨v6,rfl,ho6,hr6,hg6⟩
 obtain ⟨A6,c6,rfl,_,_⟩:=zag ho6
 have S6:=hD (S5.o.took (zan (zaz (zad w5 (some g))) hg6) hr6)
 have D6:=hD ((D5.o.drew).took hg6 hg4)
 have O6:=hD (At.own ho6)
 refine ⟨_,rfl,S6.o.bl,fun hHeld=>?_⟩
 refine rgN ?_
 clear ho6 hr6 hg6 S5 D5 R5
 refine zgB (i:=3) rfl (by kernel_rfl) (by rfl) (zgP (.tmp 26) (.tmp 28) rfl rfl rfl D6.o rfl O6.o) ?_
 rintro v7 w7 ⟨hb7,hg7⟩
 have e8:(bvs t8).take 8++(bvs zdh).drop (min t8.length 8)=bvs (pad8 t8):=zi6 t8
 rw [e8] at hb7
 have S7:=hD (S6.o.other hg7 hg4)
 have D7:=hD hb7
 refine ⟨S7.o.bl,fun hHeld=>?_⟩
 refine rgN ?_
 clear hb7 hg7 S6 D6 O6 e8
 refine wpAnyH_done (by kernel_rfl) ?_ _
 go_wp2_with (refine zcr rfl (.tmp 30) (.tmp 30) 22 rfl 5 i0 underlying22 hi0 hz0 hz1 hz2 s s (s:Int) rfl rfl rfl lr (by have:=HS.o;omega) ?_;refine Hid.o ?_)
 refine hD ?_
 have S8:=hD (S7.o.over ((Below.refl w7.heap.size w7).alloc lr (.cells (madeCells #[.int .u8 0] s) 5)))
 have D8:=hD (D7.o.alloc (.cells (madeCells #[.int .u8 0] s) 5))
 have F8:Hid (Blk (w7.alloc (.cells (madeCells #[.int .u8 0] s) 5)) w7.heap.size 5 (List.replicate s (.int .u8 0:Value)).toArray):=hD (by
  rw [← toList_madeCells_one]
  exact Blk.new w7 _ _)
 have hg7:=S7.o.glt
 have hd7:=D7.o.lt
 generalize hw8:w7.alloc (.cells (madeCells #[.int .u8 0] s) 5)=w8 at S8 D8 F8 ⊢
 generalize w7.heap.size=gf at *
 clear hw8 S7 D7
 obtain ⟨bad8,R8⟩:=S8.o.d
 go_wp2_with fail
 refine (R8.left).mono ?_
 rintro e w9 ⟨rfl,rfl⟩
 go_wp2_with fail
 refine (zaR w8 B g b3 bad8 R8 (b3.length:Nat) (WalkArith.wf_i64 (by omega))).mono ?_
 rw [zk5]
 rintro e w9 ⟨v9,rfl,ho9,hr9,hg9⟩
 obtain ⟨A9,c9,rfl,_,_⟩:=zag ho9
 have S9:=hD (S8.o.took hg9 hr9)
 have D9:=hD (D8.o.took hg9 hg4)
 have F9:=hD (F8.o.took hg9 hg7)
 have O9:=hD (At.own ho9)
 clear ho9 hr9 hg9 S8 D8 F8 R8
 go_wp2_with (refine zip rfl (zgP (.tmp 32) (.tmp 38) rfl rfl rfl F9.o (List.length_replicate ..) O9.o) ?_;rintro v10 w10 ⟨hb10,hg10⟩;rw [zrf] at hb10;refine Hid.o ?_)
 refine hD ?_
 have S10:=hD (S9.o.other hg10 hg7)
 have D10:=hD (D9.o.grown hg10 (fun e=>by injection e;omega))
 have F10:=hD (At.row hb10)
 have hlF:gf+1≤w10.heap.size:=hb10.lt
 clear hb10 hg10 S9 D9 F9 O9
 go_wp2_with fail
 refine (zgF w10 gf (gf+1) _ s s (zjp b3 s) (by have h:=F10.o;rw [zjo] at h;exact h) hlF).mono ?_
 obtain ⟨f1,f2,f3⟩:=zvT (R:=b3) HS.o
 rw [f1,f2,f3]
 rintro e w11 ⟨rfl,hbe11⟩
 have S11:=hD (S10.o.over hbe11)
 have D11:=hD (D10.o.over hbe11)
 have NEW:=hD (Blk.new w11 26 zAdr)
 have hP:(pad (b3.take s)).length=16:=zll (by rw [List.length_take];have:=HS.o;omega)
 have HP:=hD hP
 clear hbe11 S10 D10 F10 f1 f2 f3 hP
 generalize pad (b3.take s)=P at *
 go_wp2_with ((refine zaI rfl (.tmp 12) (.tmp 43) rfl w11.heap.size rfl (s:=(s:Int)) (bs:=P) rfl HP.o NEW.o rfl ?_);intro w12 hb12 hg12;have M12:=hD hb12;have W12:Hid (Below w11.heap.size w11 w12):=hD (((Below.refl _ _).alloc lr _).grown hg12 (by simp) (by simp));clear hb12 hg12;refine Hid.o ?_)
 refine hD ?_
 have S12:=hD (S11.o.over W12.o)
 have D12:=hD (D11.o.over W12.o)
 generalize w11.heap.size=ga at *
 have hU:rdU b s=⟨pad8 t8,s,P,(V:Int)-88,N⟩:=HU.o
 have HW2:=hD HW.o
 rw [hU] at HW2
 have HR:Hid (uroC (rdU b s)=uroC ⟨pad8 t8,s,P,(V:Int)-88,N⟩):=hD (by rw [hU])
 clear NEW S11 D11 W12 hU HU HW
 have H8:=hD (zeG t8)
 have H27:=hD (zcF zcf)
 generalize pad8 t8=D at *
 go_wp2_with (first
  | (with_reducible refine zjF rfl (.tmp 10) rfl gd rfl D12.o H8.o ?_)
  | (with_reducible refine zaK rfl (.tmp 12) rfl ga rfl M12.o HP.o ?_)
  | (with_reducible refine zec rfl (.tmp 46) (.tmp 47) rfl HP.o rfl rfl ?_)
  | (with_reducible refine zhW rfl (.tmp 45) (.tmp 48) (.tmp 49) rfl H8.o HP.o rfl rfl rfl ?_;refine Hid.o ?_))
 refine hD ?_
 go_wp2_with (refine zaS rfl (.tmp 4) (.tmp 50) rfl w.heap.size rfl (u:=⟨D,s,P,(V:Int)-88,N⟩) rfl HW2.o S12.o.r H27.o ?_;intro w13 hb13 hg13;have M13:=hD hb13;have W13:=hD (S12.o.bl.grown hg13 S12.o.bl.size (by simp));clear hb13 hg13;refine Hid.o ?_)
 refine hD ?_
 go_wp2
 refine zvb (p:=4) rfl rfl M13.o HW2.o rfl ?_
 exact ⟨by rw [HR.o],W13.o⟩
end
section
set_option maxRecDepth 20000
open Go.RowKit
theorem zxe (w:World) (lo hi:Nat) (A:Option Addr) (n c:Nat) (b:List UInt8) (k:Int) (h:At w lo hi A n b) (hh:hi≤w.heap.size) (hn:n≤1000) (hz:k=4∨k=16) :
  Calls prog 209 #[.slice A n c,.int .i64 k] w fun e w'=>e = .returned (.agg (uroC (rdU b k)))∧Below w.heap.size w w':=by
 rcases hz with rfl | rfl
 ·exact zmd w lo hi A n c b 4 h hh hn (.inl rfl)
 ·exact zmd w lo hi A n c b 16 h hh hn (.inr rfl)
def zc5 (w:World) (b:List UInt8) (k:Int) (e:Ending) (w':World):Prop :=
 e = .returned (.tuple #[.agg (uroC (zca b k)),.int .i64 (zbe b k:Nat),.int .i64 (zbr b k)])∧Below w.heap.size w w'
theorem zym (w:World) (lo hi lo' hi' n m c d:Nat) (A B:Option Addr) (xs ys:List UInt8) (ha:At w lo hi A n xs) (hb:At w lo' hi' B m ys) :
  Calls prog 29 #[.slice A n c,.slice B m d] w fun e w'=>e = .returned (.bool (decide (xs=ys)))∧w=w':=zb6 w lo hi lo' hi' n m c d A B xs ys ha hb
section
variable (w:World) (lo hi:Nat) (A:Option Addr) (n c:Nat) (b:List UInt8) (k:Int)
set_option maxHeartbeats 1000000 in
theorem zpQ (h:At w lo hi A n b) (hz:¬ (k=4∨k=16)):Calls prog 194 #[.slice A n c,.int .i64 k] w (zc5 w b k):=by
 obtain ⟨h1,h2,h3⟩:=zp1 (b:=b) hz
 unfold zc5
 rw [h1,h2,h3]
 have RES:Hid (Blk (w.alloc (.cells zUro 191)) w.heap.size 191 (uroC zeX)):=hD (by rw [zgs];exact Blk.new w _ _)
 have W0:=hD ((Below.refl w.heap.size w).alloc lr (.cells zUro 191))
 have n4:(k != 4)=true:=bne_iff_ne.2 (fun e=>hz (.inl e))
 have n16:(k != 16)=true:=bne_iff_ne.2 (fun e=>hz (.inr e))
 clear h hz h1 h2 h3
 go_enter func194,ntmps194
 go_wp2_with (with_reducible refine zbO rfl rfl ?_;refine Hid.o ?_)
 refine hD ?_
 generalize hw0:w.alloc (.cells zUro 191)=w0 at RES W0 ⊢
 clear hw0
 go_wp2_with ((refine zaS rfl (.tmp 4) (.tmp 16) rfl w.heap.size rfl (u:=zeX) rfl zcf RES.o (zcF zcf) ?_;intro w9 hb9 hg9;have M9:=hD hb9;have HG9:=hD hg9;clear hb9 hg9;refine Hid.o ?_))
 refine hD ?_
 go_wp2
 refine zfy (p:=4) (q:=5) (r:=6) (v:=.int .i64 0) (u:=.int .i64 1) rfl rfl rfl rfl M9.o zcf rfl ?_
 exact ⟨rfl,W0.o.grown HG9.o W0.o.size (by simp)⟩
set_option maxHeartbeats 2000000 in
theorem znz (h:At w lo hi A n b) (hh:hi≤w.heap.size) (hnn:n≤10000000000000) (hz:k=4∨k=16) (hs:b.length<lenU b):Calls prog 194 #[.slice A n c,.int .i64 k] w (zc5 w b k):=by
 have hz0:=hz
 rcases hz0 with rfl | rfl
 all_goals
  obtain ⟨h1,h2,h3⟩:=znH hz hs
  unfold zc5
  rw [h1,h2,h3]
  have RES:Hid (Blk (w.alloc (.cells zUro 191)) w.heap.size 191 (uroC zeX)):=hD (by rw [zgs];exact Blk.new w _ _)
  have W0:=hD ((Below.refl w.heap.size w).alloc lr (.cells zUro 191))
  have HA:=hD (h.alloc hh (.cells zUro 191))
  have hn:=h.len
  clear h hz h1 h2 h3
  rcases Nat.lt_or_ge n 1 with hlt | hge
  ·have hlt2:(n:Int)<1:=by omega
   clear hs hn HA
   go_enter func194,ntmps194
   go_wp2_with (with_reducible refine zbO rfl rfl ?_;refine Hid.o ?_)
   refine hD ?_
   generalize hw0:w.alloc (.cells zUro 191)=w0 at RES W0 ⊢
   clear hw0
   go_wp2_with ((refine zaS rfl (.tmp 4) (.tmp 31) rfl w.heap.size rfl (u:=zeX) rfl zcf RES.o (zcF zcf) ?_;intro w9 hb9 hg9;have M9:=hD hb9;have HG9:=hD hg9;clear hb9 hg9;refine Hid.o ?_))
   refine hD ?_
   go_wp2
   refine zfy (p:=4) (q:=5) (r:=6) (v:=.int .i64 0) (u:=.int .i64 3) rfl rfl rfl rfl M9.o zcf rfl ?_
   exact ⟨rfl,W0.o.grown HG9.o W0.o.size (by simp)⟩
  ·obtain ⟨bb,oo,x,rfl,hx,hcx⟩:=HA.o.at_ (show 0<n by omega)
   rw [Nat.add_zero] at hcx
   have hgx:lenU b=1+(x.toNat+7)/8:=by unfold lenU nU;rw [List.getD_eq_getElem?_getD,hx];rfl
   rw [hgx,hn] at hs
   have hx2:=x.toNat_lt
   obtain ⟨q,hq⟩:∃ q,(x.toNat+7)/8=q:=⟨_,rfl⟩
   rw [hq] at hs
   have HQ:=hD hq
   have hlt:(n:Int)-1<(q:Int):=by omega
   have hge2:¬ ((n:Int)<1):=by omega
   clear hs hn hgx hx HA hq
   go_enter func194,ntmps194
   go_wp2_with fail
   generalize hw0:w.alloc (.cells zUro 191)=w0 at RES W0 hcx ⊢
   clear hw0
   refine (zgt w0 x.toNat (by omega)).mono ?_
   rw [HQ.o]
   rintro e w1 ⟨rfl,rfl⟩
   go_wp2_with (with_reducible refine zbO rfl rfl ?_;refine Hid.o ?_)
   refine hD ?_
   go_wp2_with ((refine zaS rfl (.tmp 4) (.tmp 31) rfl w.heap.size rfl (u:=zeX) rfl zcf RES.o (zcF zcf) ?_;intro w9 hb9 hg9;have M9:=hD hb9;have HG9:=hD hg9;clear hb9 hg9;refine Hid.o ?_))
   refine hD ?_
   go_wp2
   refine zfy (p:=4) (q:=5) (r:=6) (v:=.int .i64 0) (u:=.int .i64 3) rfl rfl rfl rfl M9.o zcf rfl ?_
   exact ⟨rfl,W0.o.grown HG9.o W0.o.size (by simp)⟩
set_option maxHeartbeats 4000000 in
theorem zpR (h:At w lo hi A n b) (hh:hi≤w.heap.size) (hc:n≤c) (hnn:n≤10000000000000) (hz:k=4∨k=16) (hs:lenU b≤b.length):Calls prog 194 #[.slice A n c,.int .i64 k] w (zc5 w b k):=by
 obtain ⟨p1,p2,p3⟩:=zp2 hz hs
 have X:=hD (rdU_W (b:=b.take (lenU b)) hz)
 have hn:=h.len
 obtain ⟨cb,hcb⟩:∃ cb,b.take (lenU b)=cb:=⟨_,rfl⟩
 rw [hcb] at p1 p2 p3 X
 obtain ⟨r,hr⟩:∃ r,rdU cb k=r:=⟨_,rfl⟩
 have hok:okU cb k=(zbI r&&decide (zcg r=cb)):=by unfold okU;rw [hr]
 have HRD:Hid (∀ (x:World) (B:Option Addr) (m:Nat),At x lo hi B m cb→hi≤x.heap.size→m≤1000→Calls prog 209 #[.slice B m c,.int .i64 k] x fun e w'=>e = .returned (.agg (uroC r))∧Below x.heap.size x w'):=hD (fun x B m h1 h2 h3=>by
  rw [← hr]
  exact zxe x lo hi B m c cb k h1 h2 h3 hz)
 rw [hr] at p2 X
 rw [hok] at p1 p2 p3
 have HP1:=hD p1
 have HP2:=hD p2
 have HP3:=hD p3
 have RES:Hid (Blk (w.alloc (.cells zUro 191)) w.heap.size 191 (uroC zeX)):=hD (by rw [zgs];exact Blk.new w _ _)
 have W0:=hD ((Below.refl w.heap.size w).alloc lr (.cells zUro 191))
 have HA:=hD (h.alloc hh (.cells zUro 191))
 have hh0:hi≤(w.alloc (.cells zUro 191)).heap.size:=Nat.le_trans hh W0.o.size
 have hl33:=zyd b
 have hl1:1≤lenU b:=by unfold lenU;omega
 obtain ⟨bb,oo,x,rfl,hx,hcx⟩:=HA.o.at_ (show 0<n by omega)
 rw [Nat.add_zero] at hcx
 have hgx:lenU b=1+(x.toNat+7)/8:=by unfold lenU nU;rw [List.getD_eq_getElem?_getD,hx];rfl
 have hx2:=x.toNat_lt
 obtain ⟨q,hq⟩:∃ q,(x.toNat+7)/8=q:=⟨_,rfl⟩
 rw [hq] at hgx
 have HQ:=hD hq
 have HL:=hD hgx
 have AC:=hD (HA.o.head (show lenU b≤n by omega))
 rw [hcb,HL.o] at AC
 have hlt:¬ ((n:Int)-1<(q:Int)):=by omega
 have hge2:¬ ((n:Int)<1):=by omega
 have hqc:((1:Int)+(q:Int)).toNat=1+q:=by omega
 have hq1:q≤32:=by omega
 have hqn:1+q≤n:=by omega
 have HZ:=hD hz
 clear h hz hs hn hx HA hq hgx hcb p1 p2 p3 hl1 hl33 hr hok
 rcases HZ.o with rfl | rfl
 all_goals
  clear HZ
  go_enter func194,ntmps194
  go_wp2_with fail
  generalize hw0:w.alloc (.cells zUro 191)=w0 at RES W0 hcx hh0 AC ⊢
  clear hw0
  refine (zgt w0 x.toNat (by omega)).mono ?_
  rw [HQ.o]
  rintro e w1 ⟨rfl,rfl⟩
  go_wp2_with fail
  refine (zgt w0 x.toNat (by omega)).mono ?_
  rw [HQ.o]
  rintro e w1 ⟨rfl,rfl⟩
  clear hcx
  go_wp2_with fail
  refine (HRD.o w0 _ _ AC.o hh0 (by omega)).mono ?_
  rintro e w2 ⟨rfl,hb2⟩
  have RES2:=hD (RES.o.over hb2)
  have W2:=hD (zaa W0.o hb2 lr)
  have AC2:=hD (AC.o.below (hb2.mono hh0))
  have hh2:=Nat.le_trans hh0 hb2.size
  have NEW:=hD (Blk.new w2 191 zUro)
  clear hb2 RES W0 AC
  go_wp2_with (refine zaS rfl (.tmp 7) (.tmp 42) rfl w2.heap.size rfl (u:=r) rfl X.o NEW.o rfl ?_;intro w3 hb3 hg3;have M3:=hD hb3;have W23:Hid (Below w2.heap.size w2 w3):=hD (((Below.refl _ _).alloc lr _).grown hg3 (by simp) (by simp));clear hb3 hg3;refine Hid.o ?_)
  refine hD ?_
  clear NEW
  have RES3:=hD (RES2.o.over W23.o)
  have W3:=hD (zaa W2.o W23.o lr)
  have AC3:=hD (AC2.o.below (W23.o.mono hh2))
  have hh3:=Nat.le_trans hh2 W23.o.size
  clear RES2 W2 AC2 hh2 W23
  generalize w2.heap.size=g7 at *
  go_wp2_with (with_reducible refine zbF rfl (.tmp 7) rfl g7 rfl M3.o X.o ?_)
  refine (zki w3 r X.o).mono ?_
  rintro e w4 ⟨v4,rfl,ho4,hb4⟩
  obtain ⟨A4,c4,rfl,_,_⟩:=zag ho4
  have OA:=hD (At.own ho4)
  have RES4:=hD (RES3.o.over hb4)
  have W4:=hD (zaa W3.o hb4 lr)
  have AC4:=hD (AC3.o.below (hb4.mono hh3))
  have M4:=hD (M3.o.over hb4)
  clear ho4 hb4 RES3 W3 AC3 M3
  have hoE:Hid (errU r=if zbI r=true then 0 else 1):=hD rfl
  have hoB:Hid (zfZ r=if zbI r=true then zcg r else []):=hD rfl
  generalize errU r=er at *
  generalize zfZ r=ob at *
  cases c1:zbI r
  ·have HF:Hid ((zbI r&&decide (zcg r=cb))=false):=hD (by rw [c1];rfl)
   obtain rfl:er=1:=by rw [hoE.o,c1];rfl
   clear c1
   go_wp2_with (with_reducible refine zbO rfl rfl ?_;refine Hid.o ?_)
   refine hD ?_
   go_wp2_with ((refine zaS rfl (.tmp 4) (.tmp 56) rfl w.heap.size rfl (u:=zeX) rfl zcf RES4.o (zcF zcf) ?_;intro w9 hb9 hg9;have M9:=hD hb9;have HG9:=hD hg9;clear hb9 hg9;refine Hid.o ?_))
   refine hD ?_
   go_wp2
   refine zfy (p:=4) (q:=5) (r:=6) (v:=.int .i64 0) (u:=.int .i64 4) rfl rfl rfl rfl M9.o zcf rfl ?_
   unfold zc5
   rw [HP1.o,HP2.o,HP3.o,HF.o,if_neg (by decide),if_neg (by decide),if_neg (by decide)]
   exact ⟨rfl,W4.o.grown HG9.o W4.o.size (by simp)⟩
  ·obtain rfl:er=0:=by rw [hoE.o,c1];rfl
   obtain rfl:ob=zcg r:=by rw [hoB.o,c1];rfl
   clear hoE hoB
   go_wp2_with fail
   refine (zym w4 _ _ _ _ _ _ c4 c A4 _ _ _ OA.o AC4.o).mono ?_
   rintro e w5 ⟨rfl,rfl⟩
   cases c2:decide (zcg r=cb)
   ·have HF:Hid ((zbI r&&decide (zcg r=cb))=false):=hD (by rw [c2];simp)
    clear c1 c2
    go_wp2_with (with_reducible refine zbO rfl rfl ?_;refine Hid.o ?_)
    refine hD ?_
    go_wp2_with ((refine zaS rfl (.tmp 4) (.tmp 56) rfl w.heap.size rfl (u:=zeX) rfl zcf RES4.o (zcF zcf) ?_;intro w9 hb9 hg9;have M9:=hD hb9;have HG9:=hD hg9;clear hb9 hg9;refine Hid.o ?_))
    refine hD ?_
    go_wp2
    refine zfy (p:=4) (q:=5) (r:=6) (v:=.int .i64 0) (u:=.int .i64 4) rfl rfl rfl rfl M9.o zcf rfl ?_
    unfold zc5
    rw [HP1.o,HP2.o,HP3.o,HF.o,if_neg (by decide),if_neg (by decide),if_neg (by decide)]
    exact ⟨rfl,W4.o.grown HG9.o W4.o.size (by simp)⟩
   ·have HF:Hid ((zbI r&&decide (zcg r=cb))=true):=hD (by rw [c1,c2];rfl)
    clear c1 c2
    go_wp2_with (with_reducible refine zbF rfl (.tmp 7) rfl g7 rfl M4.o X.o ?_;refine Hid.o ?_)
    refine hD ?_
    go_wp2_with ((refine zaS rfl (.tmp 4) (.tmp 57) rfl w.heap.size rfl (u:=r) rfl X.o RES4.o (zcF zcf) ?_;intro w9 hb9 hg9;have M9:=hD hb9;have HG9:=hD hg9;clear hb9 hg9;refine Hid.o ?_))
    refine hD ?_
    go_wp2
    refine zfy (p:=4) (q:=5) (r:=6) (v:=.int .i64 ((1+q:Nat):Int)) (u:=.int .i64 0) rfl rfl (by first | rfl | simp) rfl M9.o X.o rfl ?_
    unfold zc5
    rw [HP1.o,HP2.o,HP3.o,HF.o,if_pos rfl,if_pos rfl,if_pos rfl,HL.o]
    exact ⟨rfl,W4.o.grown HG9.o W4.o.size (by simp)⟩
theorem zl8 (h:At w lo hi A n b) (hh:hi≤w.heap.size) (hc:n≤c) (hnn:n≤10000000000000):Calls prog 194 #[.slice A n c,.int .i64 k] w (zc5 w b k):=by
 by_cases hz:k=4∨k=16
 ·rcases Nat.lt_or_ge b.length (lenU b) with hs | hs
  ·exact znz w lo hi A n c b k h hh hnn hz hs
  ·exact zpR w lo hi A n c b k h hh hc hnn hz hs
 ·exact zpQ w lo hi A n c b k h hz
end
end
end Go.Proofs.YtplpglfjcieloaaGreatDoor
