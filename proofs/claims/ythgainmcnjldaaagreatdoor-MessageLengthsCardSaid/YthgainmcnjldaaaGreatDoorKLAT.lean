/-
  What ofSize, Take and Parse of package mroute do, in whatever memory. The one condition beyond sizes that fit memory: the program's table holds what its text lays.
  What Parse of package mroute does, in whatever memory. The one condition beyond sizes that fit memory: the tables hold what their texts lay.
  Plain mathematics of rows of multicast routes in bytes: what is written of some, and what is read of bytes. Nothing here speaks of the program.
  What Row and ReadRow of package mroute do, in whatever memory. The one condition beyond sizes that fit memory: the program's table holds what its text lays.
  Plain mathematics of routes of private networks: which ones are right, one in bytes and back, order, text. Nothing here speaks of the program.
  Plain mathematics of rows of routes of private networks in bytes: what is written of some, and what is read of bytes. Nothing here speaks of the program.
  Plain mathematics of tables of routes: which are right, what is written of them, and that what is written is read. Nothing here speaks of the program.
-/
import Derived.Test.YthgainmcnjldaaaGreatDoorKLAS
set_option linter.unusedVariables false
set_option linter.unusedSimpArgs false
namespace Go.Proofs.YthgainmcnjldaaaGreatDoor
section
set_option maxRecDepth 20000
set_option maxHeartbeats 1000000
open Go.RowKit
theorem znA (w:World) (m:Mr) (k:Int) (hm:m.W) (hkey:m.key.length≤140737488351232) (hN:zaK w) :
  Calls Tryz.prog 219 #[.agg (mroC m),.int .i64 k] w fun e w'=>e = .returned (.bool (zd7 m k))∧Below w.heap.size w w':=by
 have W0:=hide ((Below.refl w.heap.size w).alloc (Nat.le_refl _) (.cells (mroC m) 119))
 have HB:=hide (Blk.new w 119 (mroC m))
 have HN:=hide (hN.below W0.out)
 have HM:=hide hm
 have HKey:=hide hkey
 have k0:=zd8 (m:=m)
 have hlast:∀ (M:Mr) (b:Bool),(if m.k=4 then zbd m.key else m)=M→(((max M.ss M.gs==0)||(max M.ss M.gs==k))=b)→zd7 m k=b:=fun M b h1 h2=>by
  unfold zd7
  rw [h1,← h2]
  by_cases e1:max M.ss M.gs=0 <;> by_cases e2:max M.ss M.gs=k <;> simp [e1,e2]
 have HL:=hide hlast
 clear hm hkey hN hlast
 by_cases hk:m.k=4
 ·have HK4:Hid ((zaU m.k).getD 4 false=true):=hide (decide_eq_true hk)
  have HE:Hid ((if m.k=4 then zbd m.key else m)=zbd m.key):=hide (if_pos hk)
  have X:=hide (zcr m.key).w
  generalize hr:zbd m.key=r at *
  have HRR:=hide hr
  clear hr hk
  go_enter Tryz.func219,Tryz.ntmps219
  go_wp2_with fail
  refine (zbp _ m.k HN.out).mono ?_
  rintro e w1 ⟨rfl,hb1⟩
  have B1:=hide (HB.out.over hb1)
  have N1:=hide (HN.out.below hb1)
  have W1:=hide (zaa W0.out hb1 (Nat.le_refl _))
  clear hb1 HN
  go_wp2_with (first
   | (with_reducible refine zaH rfl (.tmp 8) (.const (.int .i64 4)) rfl m.k 4 (by decide) rfl rfl _ HK4.out ?_)
   | (with_reducible refine zat rfl (.tmp 2) rfl w.heap.size rfl B1.out HM.out ?_))
  refine (zfv w1 m HM.out HKey.out N1.out).mono ?_
  rw [HRR.out]
  rintro e w2 ⟨rfl,hb2⟩
  have B2:=hide (B1.out.over hb2)
  have W2:=hide (zaa W1.out hb2 (Nat.le_refl _))
  clear hb2
  go_wp2_with (refine zan rfl (.tmp 2) (.tmp 11) rfl w.heap.size rfl (m:=r) rfl X.out B2.out (za2 HM.out) ?_;intro w3 hb3 hg3;have M3:=hide hb3;have W3:=hide (W2.out.grown hg3 W2.out.size (by simp));clear hb3 hg3;refine Hid.out ?_)
  refine hide ?_
  have k10:=zet X.out M3.out
  have k27:=zeu X.out M3.out
  go_wp2
  all_goals
   go_ret
   refine ⟨?_,W3.out⟩
   rw [HL.out r _ HE.out rfl]
   by_cases hl9:r.ss<r.gs
   ·have e9:max r.ss r.gs=r.gs:=by omega
    rw [e9]
    first | (exfalso;omega) | (by_cases e1:r.gs=0 <;> by_cases e2:r.gs=k <;> first | (exfalso;omega) | simp [e1,e2])
   ·have e9:max r.ss r.gs=r.ss:=by omega
    rw [e9]
    first | (exfalso;omega) | (by_cases e1:r.ss=0 <;> by_cases e2:r.ss=k <;> first | (exfalso;omega) | simp [e1,e2])
 ·have HK4:Hid ((zaU m.k).getD 4 false=false):=hide (decide_eq_false hk)
  have HE:Hid ((if m.k=4 then zbd m.key else m)=m):=hide (if_neg hk)
  clear hk
  go_enter Tryz.func219,Tryz.ntmps219
  go_wp2_with fail
  refine (zbp _ m.k HN.out).mono ?_
  rintro e w1 ⟨rfl,hb1⟩
  have B1:=hide (HB.out.over hb1)
  have W1:=hide (zaa W0.out hb1 (Nat.le_refl _))
  have k10:=zet HM.out B1.out
  have k27:=zeu HM.out B1.out
  clear hb1 HN
  go_wp2_with (with_reducible refine zaH rfl (.tmp 8) (.const (.int .i64 4)) rfl m.k 4 (by decide) rfl rfl _ HK4.out ?_)
  all_goals
   go_ret
   refine ⟨?_,W1.out⟩
   rw [HL.out m _ HE.out rfl]
   by_cases hl9:m.ss<m.gs
   ·have e9:max m.ss m.gs=m.gs:=by omega
    rw [e9]
    first | (exfalso;omega) | (by_cases e1:m.gs=0 <;> by_cases e2:m.gs=k <;> first | (exfalso;omega) | simp [e1,e2])
   ·have e9:max m.ss m.gs=m.ss:=by omega
    rw [e9]
    first | (exfalso;omega) | (by_cases e1:m.ss=0 <;> by_cases e2:m.ss=k <;> first | (exfalso;omega) | simp [e1,e2])
theorem zo1 (k:Int) (b:List UInt8):∀ j,(rdK k b j).1.key.length≤300
 | 0=>by simp [rdK,zcb]
 | j+1=>by
  have ih:=zo1 k b j
  rw [rdK]
  split
  ·match j with
   | 0=>exact ih
   | 1=>exact ih
   | 2=>exact ih
   | 3=>exact ih
   | 4 =>
    show (rdKy _).length≤300
    unfold rdKy
    have h1:=zes (zah (rdK k b 4).2 1)
    have h2:=zf9 (zah (zah (rdK k b 4).2 1) 1) (zar (zah (rdK k b 4).2 1) 1)
    simp only [List.length_append,List.length_cons,List.length_nil]
    omega
   | 5=>exact ih
   | _+6=>exact ih
  ·exact ih
theorem zo0 (b:List UInt8):(zbd b).key.length≤300:=zo1 _ _ 6
theorem ztC {b:List UInt8} (h:¬ zfF b):keyN b≤b.length∧2≤b.length:=by
 unfold zfF at h
 unfold keyN
 omega
theorem zdA {fn:Func} {R:Ending→World→Prop} {a:Act} {w:World} {p q r:Tmp} {g:Nat} {t:TypeId} {m:Mr} {v u:Value} (hf:fn.results=#[.cell p 119,.tmp q,.tmp r])
  (hp:a.tmps.getD p undef = .pointer (some ⟨g,0,none⟩)) (hq:a.tmps.getD q undef=v) (hr:a.tmps.getD r undef=u) (h:Blk w g t (mroC m)) (hm:m.W) (hd:a.defers=[]) (hR:R (.returned (.tuple #[.agg (mroC m),v,u])) w) :
  bodyPost Tryz.prog fn R .ret a w:=by
 refine bodyPost_ret (v:=.tuple #[.agg (mroC m),v,u]) ?_ hd hR
 have hp':a.tmps[p]?.getD undef = .pointer (some ⟨g,0,none⟩):=by simpa using hp
 have hq':a.tmps[q]?.getD undef=v:=by simpa using hq
 have hr':a.tmps[r]?.getD undef=u:=by simpa using hr
 simp [results,hf,hp',hq',hr',asAddr,zgN h hm]
def zcw (w:World) (b:List UInt8) (k:Int) (e:Ending) (w':World):Prop :=
 e = .returned (.tuple #[.agg (mroC (zd2 b k)),.int .i64 (zfQ b k:Nat),.int .i64 (zcU b k)])∧Below w.heap.size w w'
section
variable (w:World) (lo hi:Nat) (A:Option Addr) (n c:Nat) (b:List UInt8) (k:Int)
theorem zox (h:At w lo hi A n b) (hz:¬ (k=4∨k=16)):Calls Tryz.prog 205 #[.slice A n c,.int .i64 k] w (zcw w b k):=by
 have h1:zcU b k=1:=by unfold zcU;rw [if_pos hz]
 have h2:zd2 b k=zcb 0:=by unfold zd2;rw [h1];rfl
 have h3:zfQ b k=0:=by unfold zfQ;rw [h1];rfl
 unfold zcw
 rw [h1,h2,h3]
 have RES:Hid (Blk (w.alloc (.cells zMro 119)) w.heap.size 119 (mroC (zcb 0))):=hide (by rw [ziC];exact Blk.new w _ _)
 have W0:=hide ((Below.refl w.heap.size w).alloc (Nat.le_refl _) (.cells zMro 119))
 have HZ:=hide hz
 clear h hz h1 h2 h3
 have n4:(k != 4)=true:=bne_iff_ne.2 (fun e=>HZ.out (.inl e))
 have n16:(k != 16)=true:=bne_iff_ne.2 (fun e=>HZ.out (.inr e))
 go_enter Tryz.func205,Tryz.ntmps205
 go_wp2_with (with_reducible refine zaY rfl rfl ?_;refine Hid.out ?_)
 refine hide ?_
 generalize hw0:w.alloc (.cells zMro 119)=w0 at RES W0 ⊢
 clear hw0
 go_wp2_with ((refine zan rfl (.tmp 4) (.tmp 16) rfl w.heap.size rfl (m:=zcb 0) rfl (zbf 0) RES.out (za2 (zbf 0)) ?_;intro w9 hb9 hg9;have M9:=hide hb9;have HG9:=hide hg9;clear hb9 hg9;refine Hid.out ?_))
 refine hide ?_
 go_wp2
 refine zdA (p:=4) (q:=5) (r:=6) (v:=.int .i64 0) (u:=.int .i64 1) rfl rfl rfl rfl M9.out (zbf 0) rfl ?_
 exact ⟨rfl,W0.out.grown HG9.out W0.out.size (by simp)⟩
theorem zm7 (h:At w lo hi A n b) (hh:hi≤w.heap.size) (hnn:n≤10000000000000) (hz:k=4∨k=16) (hs:zfF b):Calls Tryz.prog 205 #[.slice A n c,.int .i64 k] w (zcw w b k):=by
 have h1:zcU b k=3:=by unfold zcU;rw [if_neg (fun x=>x hz),if_pos hs]
 have h2:zd2 b k=zcb 0:=by unfold zd2;rw [h1];rfl
 have h3:zfQ b k=0:=by unfold zfQ;rw [h1];rfl
 unfold zcw
 rw [h1,h2,h3]
 have RES:Hid (Blk (w.alloc (.cells zMro 119)) w.heap.size 119 (mroC (zcb 0))):=hide (by rw [ziC];exact Blk.new w _ _)
 have W0:=hide ((Below.refl w.heap.size w).alloc (Nat.le_refl _) (.cells zMro 119))
 have HZ:=hide hz
 have HA:=hide (h.alloc hh (.cells zMro 119))
 have hn:=h.len
 clear h hz h1 h2 h3
 rcases HZ.out with rfl | rfl
 all_goals
  clear HZ
  unfold zfF at hs
  rcases Nat.lt_or_ge n 2 with hlt | hge
  ·have hlt2:(n:Int)<2:=by omega
   clear hs hn HA
   go_enter Tryz.func205,Tryz.ntmps205
   go_wp2_with (with_reducible refine zaY rfl rfl ?_;refine Hid.out ?_)
   refine hide ?_
   generalize hw0:w.alloc (.cells zMro 119)=w0 at RES W0 ⊢
   clear hw0
   go_wp2_with ((refine zan rfl (.tmp 4) (.tmp 30) rfl w.heap.size rfl (m:=zcb 0) rfl (zbf 0) RES.out (za2 (zbf 0)) ?_;intro w9 hb9 hg9;have M9:=hide hb9;have HG9:=hide hg9;clear hb9 hg9;refine Hid.out ?_))
   refine hide ?_
   go_wp2
   refine zdA (p:=4) (q:=5) (r:=6) (v:=.int .i64 0) (u:=.int .i64 3) rfl rfl rfl rfl M9.out (zbf 0) rfl ?_
   exact ⟨rfl,W0.out.grown HG9.out W0.out.size (by simp)⟩
  ·obtain ⟨bb,oo,x,rfl,hx,hcx⟩:=HA.out.at_ (show 1<n by omega)
   have hgx:b.getD 1 0=x:=by rw [List.getD_eq_getElem?_getD,hx];rfl
   rw [hgx,hn] at hs
   have hlt:(n:Int)-2<(x.toNat:Int):=by omega
   have hge2:¬ ((n:Int)<2):=by omega
   have hx2:=x.toNat_lt
   clear hs hn hgx hx
   go_enter Tryz.func205,Tryz.ntmps205
   go_wp2_with (with_reducible refine zaY rfl rfl ?_;refine Hid.out ?_)
   refine hide ?_
   generalize hw0:w.alloc (.cells zMro 119)=w0 at RES W0 ⊢
   clear hw0
   go_wp2_with ((refine zan rfl (.tmp 4) (.tmp 30) rfl w.heap.size rfl (m:=zcb 0) rfl (zbf 0) RES.out (za2 (zbf 0)) ?_;intro w9 hb9 hg9;have M9:=hide hb9;have HG9:=hide hg9;clear hb9 hg9;refine Hid.out ?_))
   refine hide ?_
   go_wp2
   refine zdA (p:=4) (q:=5) (r:=6) (v:=.int .i64 0) (u:=.int .i64 3) rfl rfl rfl rfl M9.out (zbf 0) rfl ?_
   exact ⟨rfl,W0.out.grown HG9.out W0.out.size (by simp)⟩
set_option maxHeartbeats 2000000 in
theorem zoz (h:At w lo hi A n b) (hh:hi≤w.heap.size) (hc:n≤c) (hnn:n≤10000000000000) (hz:k=4∨k=16) (hs:¬ zfF b) (hN:zaK w):Calls Tryz.prog 205 #[.slice A n c,.int .i64 k] w (zcw w b k):=by
 obtain ⟨p1,p2,p3⟩:=zoy hz hs
 have HP1:=hide p1
 have HP2:=hide p2
 have HP3:=hide p3
 clear p1 p2 p3
 have RES:Hid (Blk (w.alloc (.cells zMro 119)) w.heap.size 119 (mroC (zcb 0))):=hide (by rw [ziC];exact Blk.new w _ _)
 have W0:=hide ((Below.refl w.heap.size w).alloc (Nat.le_refl _) (.cells zMro 119))
 have HN:=hide (hN.below W0.out)
 have HA:=hide (h.alloc hh (.cells zMro 119))
 have hn:=h.len
 obtain ⟨hq1,hq2⟩:=ztC hs
 have hh0:hi≤(w.alloc (.cells zMro 119)).heap.size:=Nat.le_trans hh W0.out.size
 have HOK:Hid (zg2 b k=(za3 (zbd (zcN b))&&decide (zaS (zbd (zcN b))=zcN b)&&zd7 (zbd (zcN b)) k)):=hide rfl
 have X:=hide (zcr (zcN b)).w
 have HK:Hid ((zbd (zcN b)).key.length≤140737488351232):=hide (by have:=zo0 (zcN b);omega)
 have HCUT:Hid (zcN b=b.take (keyN b)):=hide rfl
 have HZ:=hide hz
 generalize hr:zbd (zcN b)=r at HOK X HK HP1
 have HRR:=hide hr
 obtain ⟨z,hz9⟩:∃ z,zd7 r k=z:=⟨_,rfl⟩
 rw [hz9] at HOK
 have HZ9:=hide hz9
 rw [HOK.out] at HP1 HP2 HP3
 clear hz9
 clear h hz hs hN hr
 obtain ⟨bb,oo,x,rfl,hx,hcx⟩:=HA.out.at_ (show 1<n by omega)
 have hq:keyN b=2+x.toNat:=by unfold keyN;rw [List.getD_eq_getElem?_getD,hx];rfl
 have hx2:=x.toNat_lt
 have hlt:¬ ((n:Int)<2):=by omega
 have hlt2:¬ ((n:Int)-2<(x.toNat:Int)):=by omega
 have AC:=hide (HA.out.head (show 2+x.toNat≤n by omega))
 have hqc:((2:Int)+(x.toNat:Int)).toNat=2+x.toNat:=by omega
 rw [← hq] at AC
 have HCT:=hide (show b.take (keyN b)=zcN b from rfl)
 have AC2:Hid (At (w.alloc (.cells zMro 119)) lo hi (some ⟨bb,oo,none⟩) (2+x.toNat) (zcN b)):=hide (by have h1:=AC.out;rw [HCT.out] at h1;rw [hq] at h1;exact h1)
 have HQ:=hide hq
 clear hq hx hq1 hq2 hn AC HCT HCUT
 clear HA
 rcases HZ.out with rfl | rfl
 all_goals
  clear HZ
  go_enter Tryz.func205,Tryz.ntmps205
  go_wp2_with fail
  clear hcx
  generalize hw0:w.alloc (.cells zMro 119)=w0 at RES W0 HN hh0 AC2 ⊢
  clear hw0
  refine (ze4 w0 lo hi _ (2+x.toNat) c (zcN b) AC2.out hh0 (by omega) HN.out).mono ?_
  rw [HRR.out]
  rintro e w2 ⟨rfl,hb2⟩
  have RES2:=hide (RES.out.over hb2)
  have N2:=hide (HN.out.below hb2)
  have W2:=hide (zaa W0.out hb2 (Nat.le_refl _))
  have AC3:=hide (AC2.out.below (hb2.mono hh0))
  have hh2:=Nat.le_trans hh0 hb2.size
  have NEW:=hide (Blk.new w2 119 zMro)
  clear hb2 RES HN W0 AC2
  go_wp2_with (refine zan rfl (.tmp 7) (.tmp 39) rfl w2.heap.size rfl (m:=r) rfl X.out NEW.out rfl ?_;intro w3 hb3 hg3;have M3:=hide hb3;have W23:Hid (Below w2.heap.size w2 w3):=hide (((Below.refl _ _).alloc (Nat.le_refl _) _).grown hg3 (by simp) (by simp));clear hb3 hg3;refine Hid.out ?_)
  refine hide ?_
  clear NEW
  have RES3:=hide (RES2.out.over W23.out)
  have N3:=hide (N2.out.below W23.out)
  have W3:=hide (zaa W2.out W23.out (Nat.le_refl _))
  have AC4:=hide (AC3.out.below (W23.out.mono hh2))
  have hh3:=Nat.le_trans hh2 W23.out.size
  clear RES2 N2 W2 AC3 hh2 W23
  generalize w2.heap.size=q at *
  go_wp2_with (with_reducible refine zat rfl (.tmp 7) rfl q rfl M3.out X.out ?_)
  refine (zf2 w3 r X.out HK.out N3.out).mono ?_
  rintro e w4 ⟨v4,rfl,ho4,hb4⟩
  obtain ⟨A4,c4,rfl,_,_⟩:=zac ho4
  have OA:=hide (At.own ho4)
  have RES4:=hide (RES3.out.over hb4)
  have N4:=hide (N3.out.below hb4)
  have W4:=hide (zaa W3.out hb4 (Nat.le_refl _))
  have AC5:=hide (AC4.out.below (hb4.mono hh3))
  have M4:=hide (M3.out.over hb4)
  clear ho4 hb4 RES3 N3 W3 AC4 M3
  have hoE:Hid (errB r=if za3 r=true then 0 else 1):=hide rfl
  have hoB:Hid (outB r=if za3 r=true then zaS r else []):=hide rfl
  generalize errB r=er at *
  generalize outB r=ob at *
  cases c1:za3 r
  ·have HF:Hid ((za3 r&&decide (zaS r=zcN b)&&z)=false):=hide (by rw [c1];rfl)
   obtain rfl:er=1:=by rw [hoE.out,c1];rfl
   clear c1
   go_wp2_with (with_reducible refine zaY rfl rfl ?_;refine Hid.out ?_)
   refine hide ?_
   go_wp2_with ((refine zan rfl (.tmp 4) (.tmp 59) rfl w.heap.size rfl (m:=zcb 0) rfl (zbf 0) RES4.out (za2 (zbf 0)) ?_;intro w9 hb9 hg9;have M9:=hide hb9;have HG9:=hide hg9;clear hb9 hg9;refine Hid.out ?_))
   refine hide ?_
   go_wp2
   refine zdA (p:=4) (q:=5) (r:=6) (v:=.int .i64 0) (u:=.int .i64 4) rfl rfl rfl rfl M9.out (zbf 0) rfl ?_
   unfold zcw
   rw [HP1.out,HP2.out,HP3.out,HF.out,if_neg (by decide),if_neg (by decide),if_neg (by decide)]
   exact ⟨rfl,W4.out.grown HG9.out W4.out.size (by simp)⟩
  ·obtain rfl:er=0:=by rw [hoE.out,c1];rfl
   obtain rfl:ob=zaS r:=by rw [hoB.out,c1];rfl
   clear hoE hoB
   go_wp2_with fail
   refine (zdh w4 _ _ _ _ _ _ c4 c A4 _ _ _ OA.out AC5.out).mono ?_
   rintro e w5 ⟨rfl,rfl⟩
   cases c2:decide (zaS r=zcN b)
   ·have HF:Hid ((za3 r&&decide (zaS r=zcN b)&&z)=false):=hide (by rw [c2];simp)
    clear c1 c2
    go_wp2_with (with_reducible refine zaY rfl rfl ?_;refine Hid.out ?_)
    refine hide ?_
    go_wp2_with ((refine zan rfl (.tmp 4) (.tmp 59) rfl w.heap.size rfl (m:=zcb 0) rfl (zbf 0) RES4.out (za2 (zbf 0)) ?_;intro w9 hb9 hg9;have M9:=hide hb9;have HG9:=hide hg9;clear hb9 hg9;refine Hid.out ?_))
    refine hide ?_
    go_wp2
    refine zdA (p:=4) (q:=5) (r:=6) (v:=.int .i64 0) (u:=.int .i64 4) rfl rfl rfl rfl M9.out (zbf 0) rfl ?_
    unfold zcw
    rw [HP1.out,HP2.out,HP3.out,HF.out,if_neg (by decide),if_neg (by decide),if_neg (by decide)]
    exact ⟨rfl,W4.out.grown HG9.out W4.out.size (by simp)⟩
   ·go_wp2_with ((with_reducible refine zat ?_ (.tmp 7) rfl q rfl M4.out X.out ?_);· rfl)
    refine (znA w4 r _ X.out HK.out N4.out).mono ?_
    rw [HZ9.out]
    rintro e w6 ⟨rfl,hb6⟩
    have RES6:=hide (RES4.out.over hb6)
    have W6:=hide (zaa W4.out hb6 (Nat.le_refl _))
    have M6:=hide (M4.out.over hb6)
    clear hb6
    cases c3:z
    ·have HF:Hid ((za3 r&&decide (zaS r=zcN b)&&z)=false):=hide (by rw [c3];simp)
     clear c1 c2 c3
     go_wp2_with (with_reducible refine zaY rfl rfl ?_;refine Hid.out ?_)
     refine hide ?_
     go_wp2_with ((refine zan rfl (.tmp 4) (.tmp 59) rfl w.heap.size rfl (m:=zcb 0) rfl (zbf 0) RES6.out (za2 (zbf 0)) ?_;intro w9 hb9 hg9;have M9:=hide hb9;have HG9:=hide hg9;clear hb9 hg9;refine Hid.out ?_))
     refine hide ?_
     go_wp2
     refine zdA (p:=4) (q:=5) (r:=6) (v:=.int .i64 0) (u:=.int .i64 4) rfl rfl rfl rfl M9.out (zbf 0) rfl ?_
     unfold zcw
     rw [HP1.out,HP2.out,HP3.out,HF.out,if_neg (by decide),if_neg (by decide),if_neg (by decide)]
     exact ⟨rfl,W6.out.grown HG9.out W6.out.size (by simp)⟩
    ·have HF:Hid ((za3 r&&decide (zaS r=zcN b)&&z)=true):=hide (by rw [c1,c2,c3];rfl)
     clear c1 c2 c3
     go_wp2_with (with_reducible refine zat rfl (.tmp 7) rfl q rfl M6.out X.out ?_;refine Hid.out ?_)
     refine hide ?_
     go_wp2_with ((refine zan rfl (.tmp 4) (.tmp 60) rfl w.heap.size rfl (m:=r) rfl X.out RES6.out (za2 (zbf 0)) ?_;intro w9 hb9 hg9;have M9:=hide hb9;have HG9:=hide hg9;clear hb9 hg9;refine Hid.out ?_))
     refine hide ?_
     go_wp2
     refine zdA (p:=4) (q:=5) (r:=6) (v:=.int .i64 ((2+x.toNat:Nat):Int)) (u:=.int .i64 0) rfl rfl (by first | rfl | simp) rfl M9.out X.out rfl ?_
     unfold zcw
     rw [HP1.out,HP2.out,HP3.out,HF.out,if_pos rfl,if_pos rfl,if_pos rfl,HQ.out]
     exact ⟨rfl,W6.out.grown HG9.out W6.out.size (by simp)⟩
theorem zpv (h:At w lo hi A n b) (hh:hi≤w.heap.size) (hc:n≤c) (hnn:n≤10000000000000) (hN:zaK w):Calls Tryz.prog 205 #[.slice A n c,.int .i64 k] w (zcw w b k):=by
 by_cases hz:k=4∨k=16
 ·by_cases hs:zfF b
  ·exact zm7 w lo hi A n c b k h hh hnn hz hs
  ·exact zoz w lo hi A n c b k h hh hc hnn hz hs hN
 ·exact zox w lo hi A n c b k h hz
end
end
section
open Go.RowKit
def zlx (b:List UInt8) (k:Int):Mr:=if zcU b k=0∧zfQ b k<b.length then zcb 0 else zd2 b k
def zly (b:List UInt8) (k:Int):Int:=if zcU b k=0∧zfQ b k<b.length then 4 else zcU b k
theorem zoA (b:List UInt8) (k:Int):(zd2 b k).W:=by
 by_cases h:zcU b k=0
 ·have hz:k=4∨k=16:=by
   refine Decidable.byContradiction fun hn=>?_
   unfold zcU at h
   rw [if_pos hn] at h
   cases h
  obtain ⟨_,hw,_⟩:=(ziQ hz (m:=zd2 b k)).1 ⟨h,rfl⟩
  exact hw
 ·unfold zd2
  rw [if_neg h]
  exact zbf 0
set_option maxRecDepth 20000 in
set_option maxHeartbeats 1000000 in
theorem znF (w:World) (lo hi:Nat) (A:Option Addr) (n c:Nat) (b:List UInt8) (k:Int) (h:At w lo hi A n b) (hh:hi≤w.heap.size) (hc:n≤c) (hnn:n≤10000000000000) (hN:zaK w) :
  Calls Tryz.prog 188 #[.slice A n c,.int .i64 k] w fun e w'=>e = .returned (.tuple #[.agg (mroC (zlx b k)),.int .i64 (zly b k)])∧Below w.heap.size w w':=by
 have RES:Hid (Blk (w.alloc (.cells zMro 119)) w.heap.size 119 (mroC (zcb 0))):=hide (by rw [ziC];exact Blk.new w _ _)
 have W0:=hide ((Below.refl w.heap.size w).alloc (Nat.le_refl _) (.cells zMro 119))
 have HN:=hide (hN.below W0.out)
 have HA:=hide (h.alloc hh (.cells zMro 119))
 have hn:=h.len
 have hh0:hi≤(w.alloc (.cells zMro 119)).heap.size:=Nat.le_trans hh W0.out.size
 have X:=hide (zoA b k)
 have HR:Hid (zlx b k=if zcU b k=0∧zfQ b k<b.length then zcb 0 else zd2 b k):=hide rfl
 have HE:Hid (zly b k=if zcU b k=0∧zfQ b k<b.length then 4 else zcU b k):=hide rfl
 rw [hn] at HR HE
 clear h hN
 go_enter Tryz.func188,Tryz.ntmps188
 go_wp2_with fail
 generalize hw0:w.alloc (.cells zMro 119)=w0 at RES W0 HA HN hh0 ⊢
 clear hw0
 refine (zpv w0 lo hi A n c b k HA.out hh0 hc hnn HN.out).mono ?_
 generalize hr:zd2 b k=r at *
 generalize hu:zfQ b k=u at *
 generalize he:zcU b k=er at *
 have HR1:=hide hr
 have HU1:=hide hu
 have HE1:=hide he
 clear hr hu he
 rintro e w1 ⟨h1,hb1⟩
 rw [HR1.out,HU1.out,HE1.out] at h1
 subst h1
 have RES1:=hide (RES.out.over hb1)
 have W1:=hide (zaa W0.out hb1 (Nat.le_refl _))
 have NEW:=hide (Blk.new w1 119 zMro)
 clear hb1 RES W0 HN HA
 go_wp2_with (refine zan rfl (.tmp 6) (.tmp 13) rfl w1.heap.size rfl (m:=r) rfl X.out NEW.out rfl ?_;intro w3 hb3 hg3;have M3:=hide hb3;have W23:Hid (Below w1.heap.size w1 w3):=hide (((Below.refl _ _).alloc (Nat.le_refl _) _).grown hg3 (by simp) (by simp));clear hb3 hg3;refine Hid.out ?_)
 refine hide ?_
 clear NEW
 have RES3:=hide (RES1.out.over W23.out)
 have W3:=hide (zaa W1.out W23.out (Nat.le_refl _))
 generalize w1.heap.size=q at *
 clear RES1 W1 W23
 by_cases hc1:er=0∧u<n
 ·obtain ⟨e0,hlt⟩:=hc1
  have hp1:zlx b k=zcb 0:=by rw [HR.out,if_pos ⟨e0,hlt⟩]
  have hp2:zly b k=4:=by rw [HE.out,if_pos ⟨e0,hlt⟩]
  have H1:=hide hp1
  have H2:=hide hp2
  subst e0
  have hlt':(u:Int)<(n:Int):=by omega
  clear hp1 hp2 HR HE hlt
  go_wp2_with (with_reducible refine zaY rfl rfl ?_;refine Hid.out ?_)
  refine hide ?_
  go_wp2_with (refine zan rfl (.tmp 4) (.tmp 24) rfl w.heap.size rfl (m:=zcb 0) rfl (zbf 0) RES3.out (za2 (zbf 0)) ?_;intro w9 hb9 hg9;have M9:=hide hb9;have HG9:=hide hg9;clear hb9 hg9;refine Hid.out ?_)
  refine hide ?_
  go_wp2
  refine ziZ (p:=4) (q:=5) (v:=.int .i64 4) rfl rfl rfl M9.out (zbf 0) rfl ?_
  rw [H1.out,H2.out]
  exact ⟨rfl,W3.out.grown HG9.out W3.out.size (by simp)⟩
 ·have hp1:zlx b k=r:=by rw [HR.out,if_neg hc1]
  have hp2:zly b k=er:=by rw [HE.out,if_neg hc1]
  have H1:=hide hp1
  have H2:=hide hp2
  clear hp1 hp2 HR HE
  by_cases e0:er=0
  ·have hge:¬ ((u:Int)<(n:Int)):=fun h=>hc1 ⟨e0,by omega⟩
   subst e0
   clear hc1
   go_wp2_with (with_reducible refine zat rfl (.tmp 6) rfl q rfl M3.out X.out ?_;refine Hid.out ?_)
   refine hide ?_
   go_wp2_with (refine zan rfl (.tmp 4) (.tmp 25) rfl w.heap.size rfl (m:=r) rfl X.out RES3.out (za2 (zbf 0)) ?_;intro w9 hb9 hg9;have M9:=hide hb9;have HG9:=hide hg9;clear hb9 hg9;refine Hid.out ?_)
   refine hide ?_
   go_wp2
   refine ziZ (p:=4) (q:=5) (v:=.int .i64 0) rfl rfl rfl M9.out X.out rfl ?_
   rw [H1.out,H2.out]
   exact ⟨rfl,W3.out.grown HG9.out W3.out.size (by simp)⟩
  ·have e0b:(er==0)=false:=beq_eq_false_iff_ne.2 e0
   clear hc1
   go_wp2_with (with_reducible refine zat rfl (.tmp 6) rfl q rfl M3.out X.out ?_;refine Hid.out ?_)
   refine hide ?_
   go_wp2_with (refine zan rfl (.tmp 4) (.tmp 25) rfl w.heap.size rfl (m:=r) rfl X.out RES3.out (za2 (zbf 0)) ?_;intro w9 hb9 hg9;have M9:=hide hb9;have HG9:=hide hg9;clear hb9 hg9;refine Hid.out ?_)
   refine hide ?_
   go_wp2
   refine ziZ (p:=4) (q:=5) (v:=.int .i64 er) rfl rfl rfl M9.out X.out rfl ?_
   rw [H1.out,H2.out]
   exact ⟨rfl,W3.out.grown HG9.out W3.out.size (by simp)⟩
end
section
def rowM:List Mr→List UInt8
 | []=>[]
 | m::r=>zaS m++rowM r
theorem zha:∀ a b:List Mr,rowM (a++b)=rowM a++rowM b
 | [],_=>rfl
 | x::a,b=>by show zaS x++rowM (a++b)=zaS x++rowM a++rowM b;rw [zha a b,List.append_assoc]
theorem zrd (m:Mr):rowM [m]=zaS m:=by show zaS m++[]=zaS m;simp
theorem zoL {l:List Mr} {k:Nat} {m:Mr} (h:l[k]?=some m):rowM (l.take k)++zaS m=rowM (l.take (k+1)):=by
 rw [List.take_add_one,h,zha]
 show _=_++rowM [m]
 rw [zrd]
open Go.RowKit
theorem zdC {m:Mr} (hm:m.W):(mroL m).length=62:=by have:=za2 hm;simpa [mroC] using this
theorem zfu {m:Mr} (hm:m.W):(Tryz.prog.info? 119).map (·.size)=some (mroL m).length:=by
 rw [zdC hm]
 kernel_rfl
theorem zda {ops:Array Oper} {rest:List Oper} {o:Oper} {a:Act} {w:World} {Q:Exit→Act→World→Prop} {m:Mr} (hw:Region.wanted o (yielded ops a.tmps)=true) (x:Operand) (ho:o.op = .load 119 x)
  (g n:Nat) (hx:a.eval x = .pointer (some ⟨g,n,none⟩)) (h:w.rangeAt g n (mroL m)) (hm:m.W)
  (hk:wpList Tryz.prog ops Q rest (a.put o.dst (.agg (mroC m))) w):wpList Tryz.prog ops Q (o::rest) a w:=by
 unfold wpList
 rw [if_pos hw]
 exact .inl (wp_load_mid 119 x ho g n hx (mroL m) _ h Tryz.underlying119 rfl (zfu hm) hk)
def ziV (l:List Mr):Bool:=l.all za3
def rowO (l:List Mr):List UInt8:=if ziV l=true then rowM l else []
def zoM (l:List Mr):Int:=if ziV l=true then 0 else 1
def zqM (w:World) (l:List Mr) (e:Ending) (w':World):Prop :=
 ∃ v,e = .returned (.tuple #[v,.int .i64 (zoM l)])∧w'.ownsRow w.heap.size 5 1 v (rowO l).length (bvs (rowO l))∧Below w.heap.size w w'
def zdM (l:List Mr) (k:Nat):Prop:=∀ m∈l.take k,za3 m=true
theorem zdM.next {l:List Mr} {k:Nat} {m:Mr} (h:zdM l k) (hm:l[k]?=some m) (hr:za3 m=true):zdM l (k+1):=fun x hx=>by
 rw [List.take_add_one,hm] at hx
 rcases List.mem_append.1 hx with hx | hx
 ·exact h x hx
 ·rw [show x=m by simpa using hx];exact hr
theorem zdM.all {l:List Mr} {k:Nat} (h:zdM l k) (hk:l.length≤k):ziV l=true:=by
 unfold ziV
 rw [List.all_eq_true]
 intro x hx
 exact h x (by rw [List.take_of_length_le hk];exact hx)
theorem zs3 {l:List Mr} {k:Nat} {m:Mr} (hm:l[k]?=some m) (hr:za3 m=false):rowO l=[]∧zoM l=1:=by
 have h:ziV l=false:=by
  unfold ziV
  rw [List.all_eq_false]
  exact ⟨m,List.mem_of_getElem? hm,by rw [hr];decide⟩
 unfold rowO zoM
 rw [h]
 exact ⟨rfl,rfl⟩
theorem zmu {l:List Mr} (h:ziV l=true):rowO l=rowM l∧zoM l=0:=by
 unfold rowO zoM
 rw [h]
 exact ⟨rfl,rfl⟩
theorem zeg {m:Mr} (w:m.W) (h:za3 m=true):(zaS m).length≤110:=by
 have:=zkS w ((zbn m).1 h)
 unfold zaS
 simp only [List.length_cons]
 omega
theorem zfS:∀ {l:List Mr},(∀ m∈l,m.W)→(∀ m∈l,za3 m=true)→(rowM l).length≤l.length*110
 | [],_,_=>Nat.zero_le _
 | m::r,hw,hr=>by
  have ih:=zfS (l:=r) (fun x hx=>hw x (by simp [hx])) (fun x hx=>hr x (by simp [hx]))
  have h:=zeg (hw m (by simp)) (hr m (by simp))
  show (zaS m++rowM r).length≤(r.length+1)*110
  rw [List.length_append];omega
theorem zs5 {l:List Mr} {k:Nat} (hw:∀ m∈l,m.W) (h:zdM l k) (hk:k≤l.length):(rowM (l.take k)).length≤k*110:=by
 have:=zfS (l:=l.take k) (fun m hm=>hw m (List.mem_of_mem_take hm)) h
 rwa [List.length_take,Nat.min_eq_left hk] at this
set_option maxRecDepth 20000 in
set_option maxHeartbeats 3000000 in
theorem znD (w:World) (lo hi:Nat) (A:Option Addr) (n c:Nat) (l:List Mr) (h:AtG mroL w lo hi A n l) (hh:hi≤w.heap.size) (hw:∀ m∈l,m.W) (hkey:∀ m∈l,m.key.length≤140737488351232) (hn:n≤1260000000000) (hN:zaK w) :
  Calls Tryz.prog 178 #[.slice A n c,.func (.func 179) #[] #[]] w (zqM w l):=by
 obtain ⟨i0,hi0,hz0,hz1,hz2⟩:=info_parts za4
 have H:=hide h
 have HXL:=hide h.len
 have HW:=hide hw
 have HKY:=hide hkey
 have HNM:=hide hN
 have HSZ:=hide (fun m hm=>zdC (hw m hm))
 clear h hw
 clear hkey hN
 go_enter Tryz.func178,Tryz.ntmps178
 go_wp2_with fail
 go_loopw [6,13] (fun v i wr=>∃ (k c3:Nat) (B:Option Addr),k≤n∧v = .slice B (rowM (l.take k)).length c3∧i = .int .i64 k∧wr.ownsRow w.heap.size 5 1 (.slice B (rowM (l.take k)).length c3) (rowM (l.take k)).length (bvs (rowM (l.take k)))∧zdM l k∧Below w.heap.size w wr) (fun _ i _=>n-(intOf i).toNat)
 case atStart=>exact ⟨0,0,none,Nat.zero_le _,rfl,rfl,World.ownsRow_nil _ _ _ _,fun m hm=>by simp at hm,Below.refl _ _⟩
 case round =>
  obtain ⟨k,c3,B,hk,rfl,rfl,hown,hrt,hbel⟩:=hrel
  have HO:=hide hown
  have WB:=hide hbel
  have HRT:=hide hrt
  clear hown hbel hrt
  by_cases hlt:k<n
  ·have Yr:=hide (H.out.keep (w':=wr) fun p _ hp=>WB.out.cell (p:=p) (by omega))
   obtain ⟨b,o,x,rfl,hb1,hb2,hx,hat⟩:=Yr.out.at_ HSZ.out hlt
   have hmem:=List.mem_of_getElem? hx
   have XW:=hide (HW.out x hmem)
   have XK:=hide (HKY.out x hmem)
   have HX:=hide hx
   have HAT:=hide hat
   have HLEN:=hide (zs5 HW.out HRT.out (by rw [HXL.out];exact hk))
   have N1:=hide (HNM.out.below WB.out)
   have NEW:=hide (Blk.new wr 119 zMro)
   clear hx hat hmem
   generalize hR:rowM (l.take k)=R at *
   have HRR:=hide hR
   clear hR
   go_wp2_with (first
    | ((with_reducible refine zda ?_ (.tmp 15) rfl b (o+k*62) rfl HAT.out XW.out ?_);· rfl)
    | (refine zan rfl (.tmp 8) (.tmp 16) rfl wr.heap.size rfl (m:=x) rfl XW.out NEW.out rfl ?_;intro w2 hb2 hg2;have B2:=hide hb2;have W2:Hid (Below wr.heap.size wr w2):=hide (((Below.refl _ _).alloc (Nat.le_refl _) _).grown hg2 (by simp) (by simp));clear hb2 hg2;refine Hid.out ?_))
   refine hide ?_
   have HO2:=hide (za1 HO.out W2.out)
   have N2:=hide (N1.out.below W2.out)
   have WB2:=hide (zaa WB.out W2.out (Nat.le_refl _))
   clear NEW
   clear N1
   go_wp2_with (with_reducible refine zat rfl (.tmp 8) rfl wr.heap.size rfl B2.out XW.out ?_)
   refine (zf2 w2 x XW.out XK.out N2.out).mono ?_
   rintro e w3 ⟨v3,rfl,ho3,hb3⟩
   obtain ⟨A3,c4,rfl,_,_⟩:=zac ho3
   have AT3:=hide (At.own ho3)
   have HO3:=hide (za1 HO2.out hb3)
   have WB3:=hide (zaa WB2.out hb3 (Nat.le_refl _))
   clear ho3 hb3 HO2 WB2 HO WB
   have hoE:Hid (errB x=if za3 x=true then 0 else 1):=hide rfl
   have hoB:Hid (outB x=if za3 x=true then zaS x else []):=hide rfl
   generalize errB x=er at *
   generalize outB x=ob at *
   cases hr:za3 x
   ·have HF:=hide (zs3 HX.out hr)
    obtain rfl:er=1:=by rw [hoE.out,hr];rfl
    clear hr hoE hoB
    go_wp2_with fail
    go_ret2
    refine ⟨.slice none 0 0,?_,?_,WB3.out⟩
    ·rw [HF.out.2];rfl
    ·rw [HF.out.1];exact World.ownsRow_nil _ _ _ _
   ·have HS:=hide (zeg XW.out hr)
    have HNX:=hide (HRT.out.next HX.out hr)
    have HRN:=hide (zoL HX.out)
    obtain rfl:er=0:=by rw [hoE.out,hr];rfl
    obtain rfl:ob=zaS x:=by rw [hoB.out,hr];rfl
    clear hr hoE hoB
    rw [HRR.out] at HRN
    go_wp2_with (at_builtin;go_must (refine zad _ rfl (.tmp 26) (.tmp 27) 22 rfl w.heap.size 5 i0 Tryz.underlying22 hi0 hz0 hz1 hz2 (.slice B R.length c3) R.length R rfl HO3.out _ _ A3 _ c4 (zaS x) rfl AT3.out (by have:=HLEN.out;have:=HS.out;omega) WB3.out.size ?_);intro v5 w5 hown5 hg5 hat5;rw [← List.length_append,HRN.out] at hown5;have HO5:=hide hown5;have HG5:=hide hg5;clear hown5 hg5 hat5)
    obtain ⟨A5,c5,rfl,_,_⟩:=zac HO5.out
    go_roundw
    case rel=>exact ⟨k+1,c5,A5,by omega,rfl,by go_num,HO5.out,HNX.out,WB3.out.grown HG5.out WB3.out.size (fun g hg=>(HO3.out.lt g hg).1)⟩
    case measure=>simp [intOf];omega
  ·have hkn:k=n:=by omega
   subst hkn
   have HG:=hide (zmu (HRT.out.all (by rw [HXL.out];exact Nat.le_refl _)))
   have HTK:Hid (l.take k=l):=hide (List.take_of_length_le (by rw [HXL.out];exact Nat.le_refl _))
   go_wp2
   go_ret2
   have h:=HO.out
   rw [HTK.out] at h
   refine ⟨.slice B (rowM (l.take k)).length c3,?_,?_,WB.out⟩
   ·rw [HG.out.2];rfl
   ·rw [HG.out.1,HTK.out];exact h
set_option maxHeartbeats 1000000 in
theorem zmM (w:World) (lo hi:Nat) (A:Option Addr) (n c:Nat) (l:List Mr) (h:AtG mroL w lo hi A n l) (hh:hi≤w.heap.size) (hw:∀ m∈l,m.W) (hkey:∀ m∈l,m.key.length≤140737488351232) (hn:n≤1260000000000) (hN:zaK w) :
  Calls Tryz.prog 144 #[.slice A n c] w (zqM w l):=by
 have HC:=hide (znD w lo hi A n c l h hh hw hkey hn hN)
 clear h hw
 clear hkey hN
 go_enter Tryz.func144,Tryz.ntmps144
 go_wp2_with fail
 refine HC.out.mono ?_
 rintro e w1 ⟨v,rfl,ho,hb⟩
 go_wp2
 go_ret2
 exact ⟨v,rfl,ho,hb⟩
end
section
structure Ur where
 rd:List UInt8
 s:Int
 bs:List UInt8
 k:Int
 lab:Int
structure Ur.W (u:Ur):Prop where
 rd:u.rd.length=8
 bs:u.bs.length=16
 s : -9223372036854775808≤u.s∧u.s≤9223372036854775807
 k : -9223372036854775808≤u.k∧u.k≤9223372036854775807
 lab : -9223372036854775808≤u.lab∧u.lab≤9223372036854775807
theorem Ur.ext' {u v:Ur} (h1:u.rd=v.rd) (h2:u.s=v.s) (h3:u.bs=v.bs) (h4:u.k=v.k) (h5:u.lab=v.lab):u=v:=by
 cases u;cases v;simp only at h1 h2 h3 h4 h5;subst h1 h2 h3 h4 h5;rfl
def zeroU:Ur:=⟨List.replicate 8 0,0,zas,0,0⟩
def zmB (s:Int) (bs:List UInt8) (k:Int):Bool:=hasB s bs k s bs
def zbN (u:Ur):Bool:=zmB u.s u.bs u.k&&decide (0≤u.lab∧u.lab≤1048575)
structure zmZ (u:Ur):Prop where
 sz:u.s=4∨u.s=16
 k:0≤u.k∧u.k≤8*u.s
 cut:cutB u.k u.bs=u.bs
 a:zau u.s u.bs=true
 lab:0≤u.lab∧u.lab≤1048575
theorem znt (s:Int) (bs:List UInt8) (k:Int):zmB s bs k=true↔zau s bs=true∧s≠0∧0≤k∧k≤8*s∧cutB k bs=bs:=by
 unfold zmB hasB zgF
 simp only [Bool.and_eq_true,decide_eq_true_eq]
 constructor
 ·rintro ⟨⟨h1,h2,h3,h4⟩,_,h5⟩;exact ⟨h1,h2,h3,h4,h5⟩
 ·rintro ⟨h1,h2,h3,h4,h5⟩;exact ⟨⟨h1,h2,h3,h4⟩,trivial,h5⟩
theorem zj7 {s:Int} {bs:List UInt8} (h:zau s bs=true):s=0∨s=4∨s=16:=by
 unfold zau at h
 rw [Bool.and_eq_true] at h
 exact of_decide_eq_true h.1
theorem zig (u:Ur):zbN u=true↔zmZ u:=by
 unfold zbN
 rw [Bool.and_eq_true,znt,decide_eq_true_eq]
 constructor
 ·rintro ⟨⟨h1,h2,h3,h4,h5⟩,h6⟩
  exact ⟨by rcases zj7 h1 with h | h | h;exact absurd h h2;exact .inl h;exact .inr h,⟨h3,h4⟩,h5,h1,h6⟩
 ·intro h
  refine ⟨⟨h.a,?_,h.k.1,h.k.2,h.cut⟩,h.lab⟩
  rcases h.sz with e | e <;> rw [e] <;> decide
def plen (k:Int):Nat:=(k.toNat+7)/8
theorem zmZ.k128 {u:Ur} (h:zmZ u):u.k.toNat≤128∧plen u.k≤16∧((u.k.toNat:Nat):Int)=u.k:=by
 have h1:=h.k
 have h2:=h.sz
 unfold plen
 omega
def zdV (u:Ur):List UInt8:=UInt8.ofNat (88+u.k.toNat)::(zdk u.lab.toNat true++(u.rd++u.bs.take (plen u.k)))
def zgr (u:Ur):List UInt8:=if zbN u=true then zdV u else []
def errU (u:Ur):Int:=if zbN u=true then 0 else 1
theorem zkQ (x:Nat) (b:Bool):(zdk x b).length=3:=by unfold zdk;rw [zaW]
theorem zqh {u:Ur} (w:u.W) (h:zmZ u):(zdV u).length=12+plen u.k:=by
 unfold zdV
 simp only [List.length_cons,List.length_append,zkQ,w.rd,List.length_take,w.bs]
 have:=h.k128
 omega
end
section
def rowU:List Ur→List UInt8
 | []=>[]
 | m::r=>zdV m++rowU r
theorem zg9:∀ a b:List Ur,rowU (a++b)=rowU a++rowU b
 | [],_=>rfl
 | x::a,b=>by show zdV x++rowU (a++b)=zdV x++rowU a++rowU b;rw [zg9 a b,List.append_assoc]
theorem zrb (m:Ur):rowU [m]=zdV m:=by show zdV m++[]=zdV m;simp
theorem zoK {l:List Ur} {k:Nat} {m:Ur} (h:l[k]?=some m):rowU (l.take k)++zdV m=rowU (l.take (k+1)):=by
 rw [List.take_add_one,h,zg9]
 show _=_++rowU [m]
 rw [zrb]
def zfl (l:List Ur):Bool:=l.all zbN
def zdT (l:List Ur):List UInt8:=if zfl l=true then rowU l else []
def zj3 (l:List Ur):Int:=if zfl l=true then 0 else 1
def zc5 (l:List Ur) (k:Nat):Prop:=∀ m∈l.take k,zbN m=true
theorem zc5.next {l:List Ur} {k:Nat} {m:Ur} (h:zc5 l k) (hm:l[k]?=some m) (hr:zbN m=true):zc5 l (k+1):=fun x hx=>by
 rw [List.take_add_one,hm] at hx
 rcases List.mem_append.1 hx with hx | hx
 ·exact h x hx
 ·rw [show x=m by simpa using hx];exact hr
theorem zc5.all {l:List Ur} {k:Nat} (h:zc5 l k) (hk:l.length≤k):zfl l=true:=by
 unfold zfl
 rw [List.all_eq_true]
 intro x hx
 exact h x (by rw [List.take_of_length_le hk];exact hx)
theorem zrc {l:List Ur} {k:Nat} {m:Ur} (hm:l[k]?=some m) (hr:zbN m=false):zdT l=[]∧zj3 l=1:=by
 have h:zfl l=false:=by
  unfold zfl
  rw [List.all_eq_false]
  exact ⟨m,List.mem_of_getElem? hm,by rw [hr];decide⟩
 unfold zdT zj3
 rw [h]
 exact ⟨rfl,rfl⟩
theorem zj2 {l:List Ur} (h:zfl l=true):zdT l=rowU l∧zj3 l=0:=by
 unfold zdT zj3
 rw [h]
 exact ⟨rfl,rfl⟩
theorem zhC {u:Ur} (w:u.W) (h:zbN u=true):(zdV u).length≤28:=by
 have h':=(zig u).1 h
 have:=zqh w h'
 have:=h'.k128
 omega
theorem zfR:∀ {l:List Ur},(∀ m∈l,m.W)→(∀ m∈l,zbN m=true)→(rowU l).length≤l.length*28
 | [],_,_=>Nat.zero_le _
 | m::r,hw,hr=>by
  have ih:=zfR (l:=r) (fun x hx=>hw x (by simp [hx])) (fun x hx=>hr x (by simp [hx]))
  have h:=zhC (hw m (by simp)) (hr m (by simp))
  show (zdV m++rowU r).length≤(r.length+1)*28
  rw [List.length_append];omega
theorem zs4 {l:List Ur} {k:Nat} (hw:∀ m∈l,m.W) (h:zc5 l k) (hk:k≤l.length):(rowU (l.take k)).length≤k*28:=by
 have:=zfR (l:=l.take k) (fun m hm=>hw m (List.mem_of_mem_take hm)) h
 rwa [List.length_take,Nat.min_eq_left hk] at this
end
section
open Go.RowKit
structure Tb where
 s:Int
 f:Int
 ns:Int
 nb:List UInt8
 ms:List Mr
 us:List Ur
structure Tb.W (t:Tb):Prop where
 nb:t.nb.length=16
 ms:∀ m∈t.ms,m.W
 us:∀ u∈t.us,u.W
structure Up where
 at_:Ats
 re:List Tb
 un:List Tb
def isM (s:Int) (m:Mr):Bool:=decide (zly (outB m) s=0)
def isU (s:Int) (u:Ur):Bool:=zbN u&&decide (u.s=s)
def zcW (t:Tb):Bool:=if t.f=5 then decide (t.us.length=0)&&t.ms.all (isM t.s) else decide (t.ms.length=0)&&t.us.all (isU t.s)
def zbm (r:Bool) (t:Tb):Bool:=zeG t.s t.f&&(zcW t&&(zau t.ns t.nb&&(r==decide (0<t.ns))))
def hasT (t:Tb):Bool:=decide (0<t.ms.length+t.us.length)
def zcF (t:Tb):Bool:=zbm true t&&hasT t
def fewT (ok:Tb→Bool) (l:List Tb):Bool:=decide (l.length≤1)&&l.all ok
def numT (s:Int):UInt8:=if s=4 then 1 else 2
def ahT (f:Int):List UInt8:=if f=128 then List.replicate 8 0 else []
def zhP (t:Tb):List UInt8:=UInt8.ofNat ((ahT t.f).length+t.ns.toNat)::(ahT t.f++(zap t.ns t.nb++[0]))
def zli (t:Tb):List UInt8:=rowO t.ms++zdT t.us
def valT (r:Bool) (t:Tb):List UInt8:=0::numT t.s::UInt8.ofNat t.f.toNat::((if r then zhP t else [])++zli t)
theorem zeY {r:Bool} {t:Tb} (h:zbm r t=true):(t.s=4∨t.s=16)∧(t.f=5∨t.f=128)∧zcW t=true∧zau t.ns t.nb=true∧(r=true↔0<t.ns):=by
 unfold zbm zeG at h
 simp only [Bool.and_eq_true,decide_eq_true_eq,beq_iff_eq] at h
 obtain ⟨⟨h1,h2⟩,h3,h4,h5⟩:=h
 refine ⟨h1,h2,h3,h4,?_⟩
 rw [h5];simp
end
end Go.Proofs.YthgainmcnjldaaaGreatDoor
