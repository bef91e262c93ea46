/-
  What ofSize, Take and Parse of package mroute do, in whatever memory. The one condition beyond sizes that fit memory: the program's table holds what its text lays.
  What Parse of package mroute does, in whatever memory. The one condition beyond sizes that fit memory: the tables hold what their texts lay.
-/
import Derived.Test.YtjindligkhdddaaGreatDoorSDAX
set_option linter.unusedVariables false
set_option linter.unusedSimpArgs false
namespace Go.Proofs.YtjindligkhdddaaGreatDoor
section
set_option maxRecDepth 20000
set_option maxHeartbeats 1000000
open Go.RowKit
theorem zqm (w:World) (m:Mr) (k:Int) (hm:m.W) (hkey:m.key.length≤140737488351232) (hN:za0 w) :
  Calls Tryz.prog 212 #[.agg (mroC m),.int .i64 k] w fun e w'=>e = .returned (.bool (zeU m k))∧Below w.heap.size w w':=by
 have W0:=hide ((Below.refl w.heap.size w).alloc (Nat.le_refl _) (.cells (mroC m) 229))
 have HB:=hide (Blk.new w 229 (mroC m))
 have HN:=hide (hN.below W0.out)
 have HM:=hide hm
 have HKey:=hide hkey
 have k0:=zeW (m:=m)
 have hlast:∀ (M:Mr) (b:Bool),(if m.k=4 then zbM m.key else m)=M→(((max M.ss M.gs==0)||(max M.ss M.gs==k))=b)→zeU m k=b:=fun M b h1 h2=>by
  unfold zeU
  rw [h1,← h2]
  by_cases e1:max M.ss M.gs=0 <;> by_cases e2:max M.ss M.gs=k <;> simp [e1,e2]
 have HL:=hide hlast
 clear hm hkey hN hlast
 by_cases hk:m.k=4
 ·have HK4:Hid ((za5 m.k).getD 4 false=true):=hide (decide_eq_true hk)
  have HE:Hid ((if m.k=4 then zbM m.key else m)=zbM m.key):=hide (if_pos hk)
  have X:=hide (zc6 m.key).w
  generalize hr:zbM m.key=r at *
  have HRR:=hide hr
  clear hr hk
  go_enter Tryz.func212,Tryz.ntmps212
  go_wp2_with fail
  refine (zb0 _ m.k HN.out).mono ?_
  rintro e w1 ⟨rfl,hb1⟩
  have B1:=hide (HB.out.over hb1)
  have N1:=hide (HN.out.below hb1)
  have W1:=hide (zaa W0.out hb1 (Nat.le_refl _))
  clear hb1 HN
  go_wp2_with (first
   | (with_reducible refine zaU rfl (.tmp 8) (.const (.int .i64 4)) rfl m.k 4 (by decide) rfl rfl _ HK4.out ?_)
   | (with_reducible refine zay rfl (.tmp 2) rfl w.heap.size rfl B1.out HM.out ?_))
  refine (zgq w1 m HM.out HKey.out N1.out).mono ?_
  rw [HRR.out]
  rintro e w2 ⟨rfl,hb2⟩
  have B2:=hide (B1.out.over hb2)
  have W2:=hide (zaa W1.out hb2 (Nat.le_refl _))
  clear hb2
  go_wp2_with (refine zar rfl (.tmp 2) (.tmp 11) rfl w.heap.size rfl (m:=r) rfl X.out B2.out (zbe HM.out) ?_;intro w3 hb3 hg3;have M3:=hide hb3;have W3:=hide (W2.out.grown hg3 W2.out.size (by simp));clear hb3 hg3;refine Hid.out ?_)
  refine hide ?_
  have k10:=zfq X.out M3.out
  have k27:=zfr X.out M3.out
  go_wp2
  all_goals
   go_ret
   refine ⟨?_,W3.out⟩
   rw [HL.out r _ HE.out rfl]
   by_cases hl9:r.ss<r.gs
   ·have e9:max r.ss r.gs=r.gs:=by omega
    rw [e9]
    first | (exfalso;omega) | (by_cases e1:r.gs=0 <;> by_cases e2:r.gs=k <;> first | (exfalso;omega) | simp [e1,e2])
   ·have e9:max r.ss r.gs=r.ss:=by omega
    rw [e9]
    first | (exfalso;omega) | (by_cases e1:r.ss=0 <;> by_cases e2:r.ss=k <;> first | (exfalso;omega) | simp [e1,e2])
 ·have HK4:Hid ((za5 m.k).getD 4 false=false):=hide (decide_eq_false hk)
  have HE:Hid ((if m.k=4 then zbM m.key else m)=m):=hide (if_neg hk)
  clear hk
  go_enter Tryz.func212,Tryz.ntmps212
  go_wp2_with fail
  refine (zb0 _ m.k HN.out).mono ?_
  rintro e w1 ⟨rfl,hb1⟩
  have B1:=hide (HB.out.over hb1)
  have W1:=hide (zaa W0.out hb1 (Nat.le_refl _))
  have k10:=zfq HM.out B1.out
  have k27:=zfr HM.out B1.out
  clear hb1 HN
  go_wp2_with (with_reducible refine zaU rfl (.tmp 8) (.const (.int .i64 4)) rfl m.k 4 (by decide) rfl rfl _ HK4.out ?_)
  all_goals
   go_ret
   refine ⟨?_,W1.out⟩
   rw [HL.out m _ HE.out rfl]
   by_cases hl9:m.ss<m.gs
   ·have e9:max m.ss m.gs=m.gs:=by omega
    rw [e9]
    first | (exfalso;omega) | (by_cases e1:m.gs=0 <;> by_cases e2:m.gs=k <;> first | (exfalso;omega) | simp [e1,e2])
   ·have e9:max m.ss m.gs=m.ss:=by omega
    rw [e9]
    first | (exfalso;omega) | (by_cases e1:m.ss=0 <;> by_cases e2:m.ss=k <;> first | (exfalso;omega) | simp [e1,e2])
theorem zsj (k:Int) (b:List UInt8):∀ j,(rdK k b j).1.key.length≤300
 | 0=>by simp [rdK,zcW]
 | j+1=>by
  have ih:=zsj k b j
  rw [rdK]
  split
  ·match j with
   | 0=>exact ih
   | 1=>exact ih
   | 2=>exact ih
   | 3=>exact ih
   | 4 =>
    show (rdKy _).length≤300
    unfold rdKy
    have h1:=zd9 (zaf (rdK k b 4).2 1)
    have h2:=zhh (zaf (zaf (rdK k b 4).2 1) 1) (zan (zaf (rdK k b 4).2 1) 1)
    simp only [List.length_append,List.length_cons,List.length_nil]
    omega
   | 5=>exact ih
   | _+6=>exact ih
  ·exact ih
theorem zsf (b:List UInt8):(zbM b).key.length≤300:=zsj _ _ 6
theorem zxU {b:List UInt8} (h:¬ zfw b):keyN b≤b.length∧2≤b.length:=by
 unfold zfw at h
 unfold keyN
 omega
theorem zeo {fn:Func} {R:Ending→World→Prop} {a:Act} {w:World} {p q r:Tmp} {g:Nat} {t:TypeId} {m:Mr} {v u:Value} (hf:fn.results=#[.cell p 229,.tmp q,.tmp r])
  (hp:a.tmps.getD p undef = .pointer (some ⟨g,0,none⟩)) (hq:a.tmps.getD q undef=v) (hr:a.tmps.getD r undef=u) (h:Blk w g t (mroC m)) (hm:m.W) (hd:a.defers=[]) (hR:R (.returned (.tuple #[.agg (mroC m),v,u])) w) :
  bodyPost Tryz.prog fn R .ret a w:=by
 refine bodyPost_ret (v:=.tuple #[.agg (mroC m),v,u]) ?_ hd hR
 have hp':a.tmps[p]?.getD undef = .pointer (some ⟨g,0,none⟩):=by simpa using hp
 have hq':a.tmps[q]?.getD undef=v:=by simpa using hq
 have hr':a.tmps[r]?.getD undef=u:=by simpa using hr
 simp [results,hf,hp',hq',hr',asAddr,zh0 h hm]
def zc9 (w:World) (b:List UInt8) (k:Int) (e:Ending) (w':World):Prop :=
 e = .returned (.tuple #[.agg (mroC (zcL b k)),.int .i64 (zbB b k:Nat),.int .i64 (zbG b k)])∧Below w.heap.size w w'
section
variable (w:World) (lo hi:Nat) (A:Option Addr) (n c:Nat) (b:List UInt8) (k:Int)
theorem zrB (h:At w lo hi A n b) (hz:¬ (k=4∨k=16)):Calls Tryz.prog 198 #[.slice A n c,.int .i64 k] w (zc9 w b k):=by
 have h1:zbG b k=1:=by unfold zbG;rw [if_pos hz]
 have h2:zcL b k=zcW 0:=by unfold zcL;rw [h1];rfl
 have h3:zbB b k=0:=by unfold zbB;rw [h1];rfl
 unfold zc9
 rw [h1,h2,h3]
 have RES:Hid (Blk (w.alloc (.cells zMro 229)) w.heap.size 229 (mroC (zcW 0))):=hide (by rw [zkp];exact Blk.new w _ _)
 have W0:=hide ((Below.refl w.heap.size w).alloc (Nat.le_refl _) (.cells zMro 229))
 have HZ:=hide hz
 clear h hz h1 h2 h3
 have n4:(k != 4)=true:=bne_iff_ne.2 (fun e=>HZ.out (.inl e))
 have n16:(k != 16)=true:=bne_iff_ne.2 (fun e=>HZ.out (.inr e))
 go_enter Tryz.func198,Tryz.ntmps198
 go_wp2_with (with_reducible refine zbh rfl rfl ?_;refine Hid.out ?_)
 refine hide ?_
 generalize hw0:w.alloc (.cells zMro 229)=w0 at RES W0 ⊢
 clear hw0
 go_wp2_with ((refine zar rfl (.tmp 4) (.tmp 16) rfl w.heap.size rfl (m:=zcW 0) rfl (zbO 0) RES.out (zbe (zbO 0)) ?_;intro w9 hb9 hg9;have M9:=hide hb9;have HG9:=hide hg9;clear hb9 hg9;refine Hid.out ?_))
 refine hide ?_
 go_wp2
 refine zeo (p:=4) (q:=5) (r:=6) (v:=.int .i64 0) (u:=.int .i64 1) rfl rfl rfl rfl M9.out (zbO 0) rfl ?_
 exact ⟨rfl,W0.out.grown HG9.out W0.out.size (by simp)⟩
theorem zpE (h:At w lo hi A n b) (hh:hi≤w.heap.size) (hnn:n≤10000000000000) (hz:k=4∨k=16) (hs:zfw b):Calls Tryz.prog 198 #[.slice A n c,.int .i64 k] w (zc9 w b k):=by
 have h1:zbG b k=3:=by unfold zbG;rw [if_neg (fun x=>x hz),if_pos hs]
 have h2:zcL b k=zcW 0:=by unfold zcL;rw [h1];rfl
 have h3:zbB b k=0:=by unfold zbB;rw [h1];rfl
 unfold zc9
 rw [h1,h2,h3]
 have RES:Hid (Blk (w.alloc (.cells zMro 229)) w.heap.size 229 (mroC (zcW 0))):=hide (by rw [zkp];exact Blk.new w _ _)
 have W0:=hide ((Below.refl w.heap.size w).alloc (Nat.le_refl _) (.cells zMro 229))
 have HZ:=hide hz
 have HA:=hide (h.alloc hh (.cells zMro 229))
 have hn:=h.len
 clear h hz h1 h2 h3
 rcases HZ.out with rfl | rfl
 all_goals
  clear HZ
  unfold zfw at hs
  rcases Nat.lt_or_ge n 2 with hlt | hge
  ·have hlt2:(n:Int)<2:=by omega
   clear hs hn HA
   go_enter Tryz.func198,Tryz.ntmps198
   go_wp2_with (with_reducible refine zbh rfl rfl ?_;refine Hid.out ?_)
   refine hide ?_
   generalize hw0:w.alloc (.cells zMro 229)=w0 at RES W0 ⊢
   clear hw0
   go_wp2_with ((refine zar rfl (.tmp 4) (.tmp 30) rfl w.heap.size rfl (m:=zcW 0) rfl (zbO 0) RES.out (zbe (zbO 0)) ?_;intro w9 hb9 hg9;have M9:=hide hb9;have HG9:=hide hg9;clear hb9 hg9;refine Hid.out ?_))
   refine hide ?_
   go_wp2
   refine zeo (p:=4) (q:=5) (r:=6) (v:=.int .i64 0) (u:=.int .i64 3) rfl rfl rfl rfl M9.out (zbO 0) rfl ?_
   exact ⟨rfl,W0.out.grown HG9.out W0.out.size (by simp)⟩
  ·obtain ⟨bb,oo,x,rfl,hx,hcx⟩:=HA.out.at_ (show 1<n by omega)
   have hgx:b.getD 1 0=x:=by rw [List.getD_eq_getElem?_getD,hx];rfl
   rw [hgx,hn] at hs
   have hlt:(n:Int)-2<(x.toNat:Int):=by omega
   have hge2:¬ ((n:Int)<2):=by omega
   have hx2:=x.toNat_lt
   clear hs hn hgx hx
   go_enter Tryz.func198,Tryz.ntmps198
   go_wp2_with (with_reducible refine zbh rfl rfl ?_;refine Hid.out ?_)
   refine hide ?_
   generalize hw0:w.alloc (.cells zMro 229)=w0 at RES W0 ⊢
   clear hw0
   go_wp2_with ((refine zar rfl (.tmp 4) (.tmp 30) rfl w.heap.size rfl (m:=zcW 0) rfl (zbO 0) RES.out (zbe (zbO 0)) ?_;intro w9 hb9 hg9;have M9:=hide hb9;have HG9:=hide hg9;clear hb9 hg9;refine Hid.out ?_))
   refine hide ?_
   go_wp2
   refine zeo (p:=4) (q:=5) (r:=6) (v:=.int .i64 0) (u:=.int .i64 3) rfl rfl rfl rfl M9.out (zbO 0) rfl ?_
   exact ⟨rfl,W0.out.grown HG9.out W0.out.size (by simp)⟩
set_option maxHeartbeats 2000000 in
theorem zrE (h:At w lo hi A n b) (hh:hi≤w.heap.size) (hc:n≤c) (hnn:n≤10000000000000) (hz:k=4∨k=16) (hs:¬ zfw b) (hN:za0 w):Calls Tryz.prog 198 #[.slice A n c,.int .i64 k] w (zc9 w b k):=by
 obtain ⟨p1,p2,p3⟩:=zrC hz hs
 have HP1:=hide p1
 have HP2:=hide p2
 have HP3:=hide p3
 clear p1 p2 p3
 have RES:Hid (Blk (w.alloc (.cells zMro 229)) w.heap.size 229 (mroC (zcW 0))):=hide (by rw [zkp];exact Blk.new w _ _)
 have W0:=hide ((Below.refl w.heap.size w).alloc (Nat.le_refl _) (.cells zMro 229))
 have HN:=hide (hN.below W0.out)
 have HA:=hide (h.alloc hh (.cells zMro 229))
 have hn:=h.len
 obtain ⟨hq1,hq2⟩:=zxU hs
 have hh0:hi≤(w.alloc (.cells zMro 229)).heap.size:=Nat.le_trans hh W0.out.size
 have HOK:Hid (zin b k=(zbf (zbM (zdt b))&&decide (zaC (zbM (zdt b))=zdt b)&&zeU (zbM (zdt b)) k)):=hide rfl
 have X:=hide (zc6 (zdt b)).w
 have HK:Hid ((zbM (zdt b)).key.length≤140737488351232):=hide (by have:=zsf (zdt b);omega)
 have HCUT:Hid (zdt b=b.take (keyN b)):=hide rfl
 have HZ:=hide hz
 generalize hr:zbM (zdt b)=r at HOK X HK HP1
 have HRR:=hide hr
 obtain ⟨z,hz9⟩:∃ z,zeU r k=z:=⟨_,rfl⟩
 rw [hz9] at HOK
 have HZ9:=hide hz9
 rw [HOK.out] at HP1 HP2 HP3
 clear hz9
 clear h hz hs hN hr
 obtain ⟨bb,oo,x,rfl,hx,hcx⟩:=HA.out.at_ (show 1<n by omega)
 have hq:keyN b=2+x.toNat:=by unfold keyN;rw [List.getD_eq_getElem?_getD,hx];rfl
 have hx2:=x.toNat_lt
 have hlt:¬ ((n:Int)<2):=by omega
 have hlt2:¬ ((n:Int)-2<(x.toNat:Int)):=by omega
 have AC:=hide (HA.out.head (show 2+x.toNat≤n by omega))
 have hqc:((2:Int)+(x.toNat:Int)).toNat=2+x.toNat:=by omega
 rw [← hq] at AC
 have HCT:=hide (show b.take (keyN b)=zdt b from rfl)
 have AC2:Hid (At (w.alloc (.cells zMro 229)) lo hi (some ⟨bb,oo,none⟩) (2+x.toNat) (zdt b)):=hide (by have h1:=AC.out;rw [HCT.out] at h1;rw [hq] at h1;exact h1)
 have HQ:=hide hq
 clear hq hx hq1 hq2 hn AC HCT HCUT
 clear HA
 rcases HZ.out with rfl | rfl
 all_goals
  clear HZ
  go_enter Tryz.func198,Tryz.ntmps198
  go_wp2_with fail
  clear hcx
  generalize hw0:w.alloc (.cells zMro 229)=w0 at RES W0 HN hh0 AC2 ⊢
  clear hw0
  refine (zf1 w0 lo hi _ (2+x.toNat) c (zdt b) AC2.out hh0 (by omega) HN.out).mono ?_
  rw [HRR.out]
  rintro e w2 ⟨rfl,hb2⟩
  have RES2:=hide (RES.out.over hb2)
  have N2:=hide (HN.out.below hb2)
  have W2:=hide (zaa W0.out hb2 (Nat.le_refl _))
  have AC3:=hide (AC2.out.below (hb2.mono hh0))
  have hh2:=Nat.le_trans hh0 hb2.size
  have NEW:=hide (Blk.new w2 229 zMro)
  clear hb2 RES HN W0 AC2
  go_wp2_with (refine zar rfl (.tmp 7) (.tmp 39) rfl w2.heap.size rfl (m:=r) rfl X.out NEW.out rfl ?_;intro w3 hb3 hg3;have M3:=hide hb3;have W23:Hid (Below w2.heap.size w2 w3):=hide (((Below.refl _ _).alloc (Nat.le_refl _) _).grown hg3 (by simp) (by simp));clear hb3 hg3;refine Hid.out ?_)
  refine hide ?_
  clear NEW
  have RES3:=hide (RES2.out.over W23.out)
  have N3:=hide (N2.out.below W23.out)
  have W3:=hide (zaa W2.out W23.out (Nat.le_refl _))
  have AC4:=hide (AC3.out.below (W23.out.mono hh2))
  have hh3:=Nat.le_trans hh2 W23.out.size
  clear RES2 N2 W2 AC3 hh2 W23
  generalize w2.heap.size=q at *
  go_wp2_with (with_reducible refine zay rfl (.tmp 7) rfl q rfl M3.out X.out ?_)
  refine (zg1 w3 r X.out HK.out N3.out).mono ?_
  rintro e w4 ⟨v4,rfl,ho4,hb4⟩
  obtain ⟨A4,c4,rfl,_,_⟩:=zag ho4
  have OA:=hide (At.own ho4)
  have RES4:=hide (RES3.out.over hb4)
  have N4:=hide (N3.out.below hb4)
  have W4:=hide (zaa W3.out hb4 (Nat.le_refl _))
  have AC5:=hide (AC4.out.below (hb4.mono hh3))
  have M4:=hide (M3.out.over hb4)
  clear ho4 hb4 RES3 N3 W3 AC4 M3
  have hoE:Hid (errB r=if zbf r=true then 0 else 1):=hide rfl
  have hoB:Hid (outB r=if zbf r=true then zaC r else []):=hide rfl
  generalize errB r=er at *
  generalize outB r=ob at *
  cases c1:zbf r
  ·have HF:Hid ((zbf r&&decide (zaC r=zdt b)&&z)=false):=hide (by rw [c1];rfl)
   obtain rfl:er=1:=by rw [hoE.out,c1];rfl
   clear c1
   go_wp2_with (with_reducible refine zbh rfl rfl ?_;refine Hid.out ?_)
   refine hide ?_
   go_wp2_with ((refine zar rfl (.tmp 4) (.tmp 59) rfl w.heap.size rfl (m:=zcW 0) rfl (zbO 0) RES4.out (zbe (zbO 0)) ?_;intro w9 hb9 hg9;have M9:=hide hb9;have HG9:=hide hg9;clear hb9 hg9;refine Hid.out ?_))
   refine hide ?_
   go_wp2
   refine zeo (p:=4) (q:=5) (r:=6) (v:=.int .i64 0) (u:=.int .i64 4) rfl rfl rfl rfl M9.out (zbO 0) rfl ?_
   unfold zc9
   rw [HP1.out,HP2.out,HP3.out,HF.out,if_neg (by decide),if_neg (by decide),if_neg (by decide)]
   exact ⟨rfl,W4.out.grown HG9.out W4.out.size (by simp)⟩
  ·obtain rfl:er=0:=by rw [hoE.out,c1];rfl
   obtain rfl:ob=zaC r:=by rw [hoB.out,c1];rfl
   clear hoE hoB
   go_wp2_with fail
   refine (zb2 w4 _ _ _ _ _ _ c4 c A4 _ _ _ OA.out AC5.out).mono ?_
   rintro e w5 ⟨rfl,rfl⟩
   cases c2:decide (zaC r=zdt b)
   ·have HF:Hid ((zbf r&&decide (zaC r=zdt b)&&z)=false):=hide (by rw [c2];simp)
    clear c1 c2
    go_wp2_with (with_reducible refine zbh rfl rfl ?_;refine Hid.out ?_)
    refine hide ?_
    go_wp2_with ((refine zar rfl (.tmp 4) (.tmp 59) rfl w.heap.size rfl (m:=zcW 0) rfl (zbO 0) RES4.out (zbe (zbO 0)) ?_;intro w9 hb9 hg9;have M9:=hide hb9;have HG9:=hide hg9;clear hb9 hg9;refine Hid.out ?_))
    refine hide ?_
    go_wp2
    refine zeo (p:=4) (q:=5) (r:=6) (v:=.int .i64 0) (u:=.int .i64 4) rfl rfl rfl rfl M9.out (zbO 0) rfl ?_
    unfold zc9
    rw [HP1.out,HP2.out,HP3.out,HF.out,if_neg (by decide),if_neg (by decide),if_neg (by decide)]
    exact ⟨rfl,W4.out.grown HG9.out W4.out.size (by simp)⟩
   ·go_wp2_with ((with_reducible refine zay ?_ (.tmp 7) rfl q rfl M4.out X.out ?_);· rfl)
    refine (zqm w4 r _ X.out HK.out N4.out).mono ?_
    rw [HZ9.out]
    rintro e w6 ⟨rfl,hb6⟩
    have RES6:=hide (RES4.out.over hb6)
    have W6:=hide (zaa W4.out hb6 (Nat.le_refl _))
    have M6:=hide (M4.out.over hb6)
    clear hb6
    cases c3:z
    ·have HF:Hid ((zbf r&&decide (zaC r=zdt b)&&z)=false):=hide (by rw [c3];simp)
     clear c1 c2 c3
     go_wp2_with (with_reducible refine zbh rfl rfl ?_;refine Hid.out ?_)
     refine hide ?_
     go_wp2_with ((refine zar rfl (.tmp 4) (.tmp 59) rfl w.heap.size rfl (m:=zcW 0) rfl (zbO 0) RES6.out (zbe (zbO 0)) ?_;intro w9 hb9 hg9;have M9:=hide hb9;have HG9:=hide hg9;clear hb9 hg9;refine Hid.out ?_))
     refine hide ?_
     go_wp2
     refine zeo (p:=4) (q:=5) (r:=6) (v:=.int .i64 0) (u:=.int .i64 4) rfl rfl rfl rfl M9.out (zbO 0) rfl ?_
     unfold zc9
     rw [HP1.out,HP2.out,HP3.out,HF.out,if_neg (by decide),if_neg (by decide),if_neg (by decide)]
     exact ⟨rfl,W6.out.grown HG9.out W6.out.size (by simp)⟩
    ·have HF:Hid ((zbf r&&decide (zaC r=zdt b)&&z)=true):=hide (by rw [c1,c2,c3];rfl)
     clear c1 c2 c3
     go_wp2_with (with_reducible refine zay rfl (.tmp 7) rfl q rfl M6.out X.out ?_;refine Hid.out ?_)
     refine hide ?_
     go_wp2_with ((refine zar rfl (.tmp 4) (.tmp 60) rfl w.heap.size rfl (m:=r) rfl X.out RES6.out (zbe (zbO 0)) ?_;intro w9 hb9 hg9;have M9:=hide hb9;have HG9:=hide hg9;clear hb9 hg9;refine Hid.out ?_))
     refine hide ?_
     go_wp2
     refine zeo (p:=4) (q:=5) (r:=6) (v:=.int .i64 ((2+x.toNat:Nat):Int)) (u:=.int .i64 0) rfl rfl (by first | rfl | simp) rfl M9.out X.out rfl ?_
     unfold zc9
     rw [HP1.out,HP2.out,HP3.out,HF.out,if_pos rfl,if_pos rfl,if_pos rfl,HQ.out]
     exact ⟨rfl,W6.out.grown HG9.out W6.out.size (by simp)⟩
theorem ziV (h:At w lo hi A n b) (hh:hi≤w.heap.size) (hc:n≤c) (hnn:n≤10000000000000) (hN:za0 w):Calls Tryz.prog 198 #[.slice A n c,.int .i64 k] w (zc9 w b k):=by
 by_cases hz:k=4∨k=16
 ·by_cases hs:zfw b
  ·exact zpE w lo hi A n c b k h hh hnn hz hs
  ·exact zrE w lo hi A n c b k h hh hc hnn hz hs hN
 ·exact zrB w lo hi A n c b k h hz
end
end
section
open Go.RowKit
def znH (b:List UInt8) (k:Int):Mr:=if zbG b k=0∧zbB b k<b.length then zcW 0 else zcL b k
def zkS (b:List UInt8) (k:Int):Int:=if zbG b k=0∧zbB b k<b.length then 4 else zbG b k
theorem zkA (b:List UInt8) (k:Int):(zcL b k).W:=by
 by_cases h:zbG b k=0
 ·have hz:k=4∨k=16:=by
   refine Decidable.byContradiction fun hn=>?_
   unfold zbG at h
   rw [if_pos hn] at h
   cases h
  obtain ⟨_,hw,_⟩:=(zek hz (m:=zcL b k)).1 ⟨h,rfl⟩
  exact hw
 ·unfold zcL
  rw [if_neg h]
  exact zbO 0
set_option maxRecDepth 20000 in
set_option maxHeartbeats 1000000 in
theorem zqx (w:World) (lo hi:Nat) (A:Option Addr) (n c:Nat) (b:List UInt8) (k:Int) (h:At w lo hi A n b) (hh:hi≤w.heap.size) (hc:n≤c) (hnn:n≤10000000000000) (hN:za0 w) :
  Calls Tryz.prog 181 #[.slice A n c,.int .i64 k] w fun e w'=>e = .returned (.tuple #[.agg (mroC (znH b k)),.int .i64 (zkS b k)])∧Below w.heap.size w w':=by
 have RES:Hid (Blk (w.alloc (.cells zMro 229)) w.heap.size 229 (mroC (zcW 0))):=hide (by rw [zkp];exact Blk.new w _ _)
 have W0:=hide ((Below.refl w.heap.size w).alloc (Nat.le_refl _) (.cells zMro 229))
 have HN:=hide (hN.below W0.out)
 have HA:=hide (h.alloc hh (.cells zMro 229))
 have hn:=h.len
 have hh0:hi≤(w.alloc (.cells zMro 229)).heap.size:=Nat.le_trans hh W0.out.size
 have X:=hide (zkA b k)
 have HR:Hid (znH b k=if zbG b k=0∧zbB b k<b.length then zcW 0 else zcL b k):=hide rfl
 have HE:Hid (zkS b k=if zbG b k=0∧zbB b k<b.length then 4 else zbG b k):=hide rfl
 rw [hn] at HR HE
 clear h hN
 go_enter Tryz.func181,Tryz.ntmps181
 go_wp2_with fail
 generalize hw0:w.alloc (.cells zMro 229)=w0 at RES W0 HA HN hh0 ⊢
 clear hw0
 refine (ziV w0 lo hi A n c b k HA.out hh0 hc hnn HN.out).mono ?_
 generalize hr:zcL b k=r at *
 generalize hu:zbB b k=u at *
 generalize he:zbG b k=er at *
 have HR1:=hide hr
 have HU1:=hide hu
 have HE1:=hide he
 clear hr hu he
 rintro e w1 ⟨h1,hb1⟩
 rw [HR1.out,HU1.out,HE1.out] at h1
 subst h1
 have RES1:=hide (RES.out.over hb1)
 have W1:=hide (zaa W0.out hb1 (Nat.le_refl _))
 have NEW:=hide (Blk.new w1 229 zMro)
 clear hb1 RES W0 HN HA
 go_wp2_with (refine zar rfl (.tmp 6) (.tmp 13) rfl w1.heap.size rfl (m:=r) rfl X.out NEW.out rfl ?_;intro w3 hb3 hg3;have M3:=hide hb3;have W23:Hid (Below w1.heap.size w1 w3):=hide (((Below.refl _ _).alloc (Nat.le_refl _) _).grown hg3 (by simp) (by simp));clear hb3 hg3;refine Hid.out ?_)
 refine hide ?_
 clear NEW
 have RES3:=hide (RES1.out.over W23.out)
 have W3:=hide (zaa W1.out W23.out (Nat.le_refl _))
 generalize w1.heap.size=q at *
 clear RES1 W1 W23
 by_cases hc1:er=0∧u<n
 ·obtain ⟨e0,hlt⟩:=hc1
  have hp1:znH b k=zcW 0:=by rw [HR.out,if_pos ⟨e0,hlt⟩]
  have hp2:zkS b k=4:=by rw [HE.out,if_pos ⟨e0,hlt⟩]
  have H1:=hide hp1
  have H2:=hide hp2
  subst e0
  have hlt':(u:Int)<(n:Int):=by omega
  clear hp1 hp2 HR HE hlt
  go_wp2_with (with_reducible refine zbh rfl rfl ?_;refine Hid.out ?_)
  refine hide ?_
  go_wp2_with (refine zar rfl (.tmp 4) (.tmp 24) rfl w.heap.size rfl (m:=zcW 0) rfl (zbO 0) RES3.out (zbe (zbO 0)) ?_;intro w9 hb9 hg9;have M9:=hide hb9;have HG9:=hide hg9;clear hb9 hg9;refine Hid.out ?_)
  refine hide ?_
  go_wp2
  refine zkM (p:=4) (q:=5) (v:=.int .i64 4) rfl rfl rfl M9.out (zbO 0) rfl ?_
  rw [H1.out,H2.out]
  exact ⟨rfl,W3.out.grown HG9.out W3.out.size (by simp)⟩
 ·have hp1:znH b k=r:=by rw [HR.out,if_neg hc1]
  have hp2:zkS b k=er:=by rw [HE.out,if_neg hc1]
  have H1:=hide hp1
  have H2:=hide hp2
  clear hp1 hp2 HR HE
  by_cases e0:er=0
  ·have hge:¬ ((u:Int)<(n:Int)):=fun h=>hc1 ⟨e0,by omega⟩
   subst e0
   clear hc1
   go_wp2_with (with_reducible refine zay rfl (.tmp 6) rfl q rfl M3.out X.out ?_;refine Hid.out ?_)
   refine hide ?_
   go_wp2_with (refine zar rfl (.tmp 4) (.tmp 25) rfl w.heap.size rfl (m:=r) rfl X.out RES3.out (zbe (zbO 0)) ?_;intro w9 hb9 hg9;have M9:=hide hb9;have HG9:=hide hg9;clear hb9 hg9;refine Hid.out ?_)
   refine hide ?_
   go_wp2
   refine zkM (p:=4) (q:=5) (v:=.int .i64 0) rfl rfl rfl M9.out X.out rfl ?_
   rw [H1.out,H2.out]
   exact ⟨rfl,W3.out.grown HG9.out W3.out.size (by simp)⟩
  ·have e0b:(er==0)=false:=beq_eq_false_iff_ne.2 e0
   clear hc1
   go_wp2_with (with_reducible refine zay rfl (.tmp 6) rfl q rfl M3.out X.out ?_;refine Hid.out ?_)
   refine hide ?_
   go_wp2_with (refine zar rfl (.tmp 4) (.tmp 25) rfl w.heap.size rfl (m:=r) rfl X.out RES3.out (zbe (zbO 0)) ?_;intro w9 hb9 hg9;have M9:=hide hb9;have HG9:=hide hg9;clear hb9 hg9;refine Hid.out ?_)
   refine hide ?_
   go_wp2
   refine zkM (p:=4) (q:=5) (v:=.int .i64 er) rfl rfl rfl M9.out X.out rfl ?_
   rw [H1.out,H2.out]
   exact ⟨rfl,W3.out.grown HG9.out W3.out.size (by simp)⟩
end
end Go.Proofs.YtjindligkhdddaaGreatDoor
