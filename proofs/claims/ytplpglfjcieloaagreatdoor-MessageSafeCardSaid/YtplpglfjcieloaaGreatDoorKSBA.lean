/-
  What ofSize, Take and Parse of package mroute do, in whatever memory. The one condition beyond sizes that fit memory: the program's table holds what its text lays.
  What Parse of package mroute does, in whatever memory. The one condition beyond sizes that fit memory: the tables hold what their texts lay.
-/
import Derived.Test.YtplpglfjcieloaaGreatDoorKSAZ
set_option linter.unusedVariables false
set_option linter.unusedSimpArgs false
namespace Go.Proofs.YtplpglfjcieloaaGreatDoor
open Tryz
section
set_option maxRecDepth 20000
set_option maxHeartbeats 1000000
open Go.RowKit
theorem zqH (w:World) (m:Mr) (k:Int) (hm:m.W) (hkey:m.key.length≤140737488351232) (hN:za1 w) :
  Calls prog 202 #[.agg (mroC m),.int .i64 k] w fun e w'=>e = .returned (.bool (zfa m k))∧Below w.heap.size w w':=by
 have W0:=hD ((Below.refl w.heap.size w).alloc lr (.cells (mroC m) 186))
 have HB:=hD (Blk.new w 186 (mroC m))
 have HN:=hD (hN.below W0.o)
 have HM:=hD hm
 have HKey:=hD hkey
 have k0:=zfb (m:=m)
 have hlast:∀ (M:Mr) (b:Bool),(if m.k=4 then zbR m.key else m)=M→(((max M.ss M.gs==0)||(max M.ss M.gs==k))=b)→zfa m k=b:=fun M b h1 h2=>by
  unfold zfa
  rw [h1,← h2]
  by_cases e1:max M.ss M.gs=0 <;> by_cases e2:max M.ss M.gs=k <;> simp [e1,e2]
 have HL:=hD hlast
 clear hm hkey hN hlast
 by_cases hk:m.k=4
 ·have HK4:Hid ((za6 m.k).getD 4 false=true):=hD (decide_eq_true hk)
  have HE:Hid ((if m.k=4 then zbR m.key else m)=zbR m.key):=hD (if_pos hk)
  have X:=hD (zdd m.key).w
  generalize hr:zbR m.key=r at *
  have HRR:=hD hr
  clear hr hk
  go_enter func202,ntmps202
  go_wp2_with fail
  refine (zb3 _ m.k HN.o).mono ?_
  rintro e w1 ⟨rfl,hb1⟩
  have B1:=hD (HB.o.over hb1)
  have N1:=hD (HN.o.below hb1)
  have W1:=hD (zaa W0.o hb1 lr)
  clear hb1 HN
  go_wp2_with (first
   | (with_reducible refine zaU rfl (.tmp 8) (.const (.int .i64 4)) rfl m.k 4 (by decide) rfl rfl _ HK4.o ?_)
   | (with_reducible refine zaA rfl (.tmp 2) rfl w.heap.size rfl B1.o HM.o ?_))
  refine (zgK w1 m HM.o HKey.o N1.o).mono ?_
  rw [HRR.o]
  rintro e w2 ⟨rfl,hb2⟩
  have B2:=hD (B1.o.over hb2)
  have W2:=hD (zaa W1.o hb2 lr)
  clear hb2
  go_wp2_with (refine zar rfl (.tmp 2) (.tmp 11) rfl w.heap.size rfl (m:=r) rfl X.o B2.o (zbg HM.o) ?_;intro w3 hb3 hg3;have M3:=hD hb3;have W3:=hD (W2.o.grown hg3 W2.o.size (by simp));clear hb3 hg3;refine Hid.o ?_)
  refine hD ?_
  have k10:=zfG X.o M3.o
  have k27:=zfH X.o M3.o
  go_wp2
  all_goals
   go_ret
   refine ⟨?_,W3.o⟩
   rw [HL.o r _ HE.o rfl]
   by_cases hl9:r.ss<r.gs
   ·have e9:max r.ss r.gs=r.gs:=by omega
    rw [e9]
    first | (exfalso;omega) | (by_cases e1:r.gs=0 <;> by_cases e2:r.gs=k <;> first | (exfalso;omega) | simp [e1,e2])
   ·have e9:max r.ss r.gs=r.ss:=by omega
    rw [e9]
    first | (exfalso;omega) | (by_cases e1:r.ss=0 <;> by_cases e2:r.ss=k <;> first | (exfalso;omega) | simp [e1,e2])
 ·have HK4:Hid ((za6 m.k).getD 4 false=false):=hD (decide_eq_false hk)
  have HE:Hid ((if m.k=4 then zbR m.key else m)=m):=hD (if_neg hk)
  clear hk
  go_enter func202,ntmps202
  go_wp2_with fail
  refine (zb3 _ m.k HN.o).mono ?_
  rintro e w1 ⟨rfl,hb1⟩
  have B1:=hD (HB.o.over hb1)
  have W1:=hD (zaa W0.o hb1 lr)
  have k10:=zfG HM.o B1.o
  have k27:=zfH HM.o B1.o
  clear hb1 HN
  go_wp2_with (with_reducible refine zaU rfl (.tmp 8) (.const (.int .i64 4)) rfl m.k 4 (by decide) rfl rfl _ HK4.o ?_)
  all_goals
   go_ret
   refine ⟨?_,W1.o⟩
   rw [HL.o m _ HE.o rfl]
   by_cases hl9:m.ss<m.gs
   ·have e9:max m.ss m.gs=m.gs:=by omega
    rw [e9]
    first | (exfalso;omega) | (by_cases e1:m.gs=0 <;> by_cases e2:m.gs=k <;> first | (exfalso;omega) | simp [e1,e2])
   ·have e9:max m.ss m.gs=m.ss:=by omega
    rw [e9]
    first | (exfalso;omega) | (by_cases e1:m.ss=0 <;> by_cases e2:m.ss=k <;> first | (exfalso;omega) | simp [e1,e2])
theorem zsD (k:Int) (b:List UInt8):∀ j,(rdK k b j).1.key.length≤300
 | 0=>by simp [rdK,zc3]
 | j+1=>by
  have ih:=zsD k b j
  rw [rdK]
  split
  ·match j with
   | 0=>exact ih
   | 1=>exact ih
   | 2=>exact ih
   | 3=>exact ih
   | 4 =>
    show (rdKy _).length≤300
    unfold rdKy
    have h1:=zen (zaf (rdK k b 4).2 1)
    have h2:=zhx (zaf (zaf (rdK k b 4).2 1) 1) (zap (zaf (rdK k b 4).2 1) 1)
    simp only [List.length_append,List.length_cons,List.length_nil]
    omega
   | 5=>exact ih
   | _+6=>exact ih
  ·exact ih
theorem zsz (b:List UInt8):(zbR b).key.length≤300:=zsD _ _ 6
theorem zyf {b:List UInt8} (h:¬ zfQ b):keyN b≤b.length∧2≤b.length:=by
 unfold zfQ at h
 unfold keyN
 omega
theorem zeF {fn:Func} {R:Ending→World→Prop} {a:Act} {w:World} {p q r:Tmp} {g:Nat} {t:TypeId} {m:Mr} {v u:Value} (hf:fn.results=#[.cell p 186,.tmp q,.tmp r])
  (hp:a.tmps.getD p undef = .pointer (some ⟨g,0,none⟩)) (hq:a.tmps.getD q undef=v) (hr:a.tmps.getD r undef=u) (h:Blk w g t (mroC m)) (hm:m.W) (hd:a.defers=[]) (hR:R (.returned (.tuple #[.agg (mroC m),v,u])) w) :
  bodyPost prog fn R .ret a w:=by
 refine bodyPost_ret (v:=.tuple #[.agg (mroC m),v,u]) ?_ hd hR
 have hp':a.tmps[p]?.getD undef = .pointer (some ⟨g,0,none⟩):=by simpa using hp
 have hq':a.tmps[q]?.getD undef=v:=by simpa using hq
 have hr':a.tmps[r]?.getD undef=u:=by simpa using hr
 simp [results,hf,hp',hq',hr',asAddr,zig h hm]
def zdg (w:World) (b:List UInt8) (k:Int) (e:Ending) (w':World):Prop :=
 e = .returned (.tuple #[.agg (mroC (zcP b k)),.int .i64 (zbD b k:Nat),.int .i64 (zbH b k)])∧Below w.heap.size w w'
section
variable (w:World) (lo hi:Nat) (A:Option Addr) (n c:Nat) (b:List UInt8) (k:Int)
theorem zrU (h:At w lo hi A n b) (hz:¬ (k=4∨k=16)):Calls prog 171 #[.slice A n c,.int .i64 k] w (zdg w b k):=by
 have h1:zbH b k=1:=by unfold zbH;rw [if_pos hz]
 have h2:zcP b k=zc3 0:=by unfold zcP;rw [h1];rfl
 have h3:zbD b k=0:=by unfold zbD;rw [h1];rfl
 unfold zdg
 rw [h1,h2,h3]
 have RES:Hid (Blk (w.alloc (.cells zMro 186)) w.heap.size 186 (mroC (zc3 0))):=hD (by rw [zkL];exact Blk.new w _ _)
 have W0:=hD ((Below.refl w.heap.size w).alloc lr (.cells zMro 186))
 have HZ:=hD hz
 clear h hz h1 h2 h3
 have n4:(k != 4)=true:=bne_iff_ne.2 (fun e=>HZ.o (.inl e))
 have n16:(k != 16)=true:=bne_iff_ne.2 (fun e=>HZ.o (.inr e))
 go_enter func171,ntmps171
 go_wp2_with (with_reducible refine zbk rfl rfl ?_;refine Hid.o ?_)
 refine hD ?_
 generalize hw0:w.alloc (.cells zMro 186)=w0 at RES W0 ⊢
 clear hw0
 go_wp2_with ((refine zar rfl (.tmp 4) (.tmp 16) rfl w.heap.size rfl (m:=zc3 0) rfl (zbS 0) RES.o (zbg (zbS 0)) ?_;intro w9 hb9 hg9;have M9:=hD hb9;have HG9:=hD hg9;clear hb9 hg9;refine Hid.o ?_))
 refine hD ?_
 go_wp2
 refine zeF (p:=4) (q:=5) (r:=6) (v:=.int .i64 0) (u:=.int .i64 1) rfl rfl rfl rfl M9.o (zbS 0) rfl ?_
 exact ⟨rfl,W0.o.grown HG9.o W0.o.size (by simp)⟩
theorem zpY (h:At w lo hi A n b) (hh:hi≤w.heap.size) (hnn:n≤10000000000000) (hz:k=4∨k=16) (hs:zfQ b):Calls prog 171 #[.slice A n c,.int .i64 k] w (zdg w b k):=by
 have h1:zbH b k=3:=by unfold zbH;rw [if_neg (fun x=>x hz),if_pos hs]
 have h2:zcP b k=zc3 0:=by unfold zcP;rw [h1];rfl
 have h3:zbD b k=0:=by unfold zbD;rw [h1];rfl
 unfold zdg
 rw [h1,h2,h3]
 have RES:Hid (Blk (w.alloc (.cells zMro 186)) w.heap.size 186 (mroC (zc3 0))):=hD (by rw [zkL];exact Blk.new w _ _)
 have W0:=hD ((Below.refl w.heap.size w).alloc lr (.cells zMro 186))
 have HZ:=hD hz
 have HA:=hD (h.alloc hh (.cells zMro 186))
 have hn:=h.len
 clear h hz h1 h2 h3
 rcases HZ.o with rfl | rfl
 all_goals
  clear HZ
  unfold zfQ at hs
  rcases Nat.lt_or_ge n 2 with hlt | hge
  ·have hlt2:(n:Int)<2:=by omega
   clear hs hn HA
   go_enter func171,ntmps171
   go_wp2_with (with_reducible refine zbk rfl rfl ?_;refine Hid.o ?_)
   refine hD ?_
   generalize hw0:w.alloc (.cells zMro 186)=w0 at RES W0 ⊢
   clear hw0
   go_wp2_with ((refine zar rfl (.tmp 4) (.tmp 30) rfl w.heap.size rfl (m:=zc3 0) rfl (zbS 0) RES.o (zbg (zbS 0)) ?_;intro w9 hb9 hg9;have M9:=hD hb9;have HG9:=hD hg9;clear hb9 hg9;refine Hid.o ?_))
   refine hD ?_
   go_wp2
   refine zeF (p:=4) (q:=5) (r:=6) (v:=.int .i64 0) (u:=.int .i64 3) rfl rfl rfl rfl M9.o (zbS 0) rfl ?_
   exact ⟨rfl,W0.o.grown HG9.o W0.o.size (by simp)⟩
  ·obtain ⟨bb,oo,x,rfl,hx,hcx⟩:=HA.o.at_ (show 1<n by omega)
   have hgx:b.getD 1 0=x:=by rw [List.getD_eq_getElem?_getD,hx];rfl
   rw [hgx,hn] at hs
   have hlt:(n:Int)-2<(x.toNat:Int):=by omega
   have hge2:¬ ((n:Int)<2):=by omega
   have hx2:=x.toNat_lt
   clear hs hn hgx hx
   go_enter func171,ntmps171
   go_wp2_with (with_reducible refine zbk rfl rfl ?_;refine Hid.o ?_)
   refine hD ?_
   generalize hw0:w.alloc (.cells zMro 186)=w0 at RES W0 ⊢
   clear hw0
   go_wp2_with ((refine zar rfl (.tmp 4) (.tmp 30) rfl w.heap.size rfl (m:=zc3 0) rfl (zbS 0) RES.o (zbg (zbS 0)) ?_;intro w9 hb9 hg9;have M9:=hD hb9;have HG9:=hD hg9;clear hb9 hg9;refine Hid.o ?_))
   refine hD ?_
   go_wp2
   refine zeF (p:=4) (q:=5) (r:=6) (v:=.int .i64 0) (u:=.int .i64 3) rfl rfl rfl rfl M9.o (zbS 0) rfl ?_
   exact ⟨rfl,W0.o.grown HG9.o W0.o.size (by simp)⟩
set_option maxHeartbeats 2000000 in
theorem zrX (h:At w lo hi A n b) (hh:hi≤w.heap.size) (hc:n≤c) (hnn:n≤10000000000000) (hz:k=4∨k=16) (hs:¬ zfQ b) (hN:za1 w):Calls prog 171 #[.slice A n c,.int .i64 k] w (zdg w b k):=by
 obtain ⟨p1,p2,p3⟩:=zrV hz hs
 have HP1:=hD p1
 have HP2:=hD p2
 have HP3:=hD p3
 clear p1 p2 p3
 have RES:Hid (Blk (w.alloc (.cells zMro 186)) w.heap.size 186 (mroC (zc3 0))):=hD (by rw [zkL];exact Blk.new w _ _)
 have W0:=hD ((Below.refl w.heap.size w).alloc lr (.cells zMro 186))
 have HN:=hD (hN.below W0.o)
 have HA:=hD (h.alloc hh (.cells zMro 186))
 have hn:=h.len
 obtain ⟨hq1,hq2⟩:=zyf hs
 have hh0:hi≤(w.alloc (.cells zMro 186)).heap.size:=Nat.le_trans hh W0.o.size
 have HOK:Hid (ziA b k=(zbh (zbR (zdz b))&&decide (zaE (zbR (zdz b))=zdz b)&&zfa (zbR (zdz b)) k)):=hD rfl
 have X:=hD (zdd (zdz b)).w
 have HK:Hid ((zbR (zdz b)).key.length≤140737488351232):=hD (by have:=zsz (zdz b);omega)
 have HCUT:Hid (zdz b=b.take (keyN b)):=hD rfl
 have HZ:=hD hz
 generalize hr:zbR (zdz b)=r at HOK X HK HP1
 have HRR:=hD hr
 obtain ⟨z,hz9⟩:∃ z,zfa r k=z:=⟨_,rfl⟩
 rw [hz9] at HOK
 have HZ9:=hD hz9
 rw [HOK.o] at HP1 HP2 HP3
 clear hz9
 clear h hz hs hN hr
 obtain ⟨bb,oo,x,rfl,hx,hcx⟩:=HA.o.at_ (show 1<n by omega)
 have hq:keyN b=2+x.toNat:=by unfold keyN;rw [List.getD_eq_getElem?_getD,hx];rfl
 have hx2:=x.toNat_lt
 have hlt:¬ ((n:Int)<2):=by omega
 have hlt2:¬ ((n:Int)-2<(x.toNat:Int)):=by omega
 have AC:=hD (HA.o.head (show 2+x.toNat≤n by omega))
 have hqc:((2:Int)+(x.toNat:Int)).toNat=2+x.toNat:=by omega
 rw [← hq] at AC
 have HCT:=hD (show b.take (keyN b)=zdz b from rfl)
 have AC2:Hid (At (w.alloc (.cells zMro 186)) lo hi (some ⟨bb,oo,none⟩) (2+x.toNat) (zdz b)):=hD (by have h1:=AC.o;rw [HCT.o] at h1;rw [hq] at h1;exact h1)
 have HQ:=hD hq
 clear hq hx hq1 hq2 hn AC HCT HCUT
 clear HA
 rcases HZ.o with rfl | rfl
 all_goals
  clear HZ
  go_enter func171,ntmps171
  go_wp2_with fail
  clear hcx
  generalize hw0:w.alloc (.cells zMro 186)=w0 at RES W0 HN hh0 AC2 ⊢
  clear hw0
  refine (zgh w0 lo hi _ (2+x.toNat) c (zdz b) AC2.o hh0 (by omega) HN.o).mono ?_
  rw [HRR.o]
  rintro e w2 ⟨rfl,hb2⟩
  have RES2:=hD (RES.o.over hb2)
  have N2:=hD (HN.o.below hb2)
  have W2:=hD (zaa W0.o hb2 lr)
  have AC3:=hD (AC2.o.below (hb2.mono hh0))
  have hh2:=Nat.le_trans hh0 hb2.size
  have NEW:=hD (Blk.new w2 186 zMro)
  clear hb2 RES HN W0 AC2
  go_wp2_with (refine zar rfl (.tmp 7) (.tmp 39) rfl w2.heap.size rfl (m:=r) rfl X.o NEW.o rfl ?_;intro w3 hb3 hg3;have M3:=hD hb3;have W23:Hid (Below w2.heap.size w2 w3):=hD (((Below.refl _ _).alloc lr _).grown hg3 (by simp) (by simp));clear hb3 hg3;refine Hid.o ?_)
  refine hD ?_
  clear NEW
  have RES3:=hD (RES2.o.over W23.o)
  have N3:=hD (N2.o.below W23.o)
  have W3:=hD (zaa W2.o W23.o lr)
  have AC4:=hD (AC3.o.below (W23.o.mono hh2))
  have hh3:=Nat.le_trans hh2 W23.o.size
  clear RES2 N2 W2 AC3 hh2 W23
  generalize w2.heap.size=q at *
  go_wp2_with (with_reducible refine zaA rfl (.tmp 7) rfl q rfl M3.o X.o ?_)
  refine (zhl w3 r X.o HK.o N3.o).mono ?_
  rintro e w4 ⟨v4,rfl,ho4,hb4⟩
  obtain ⟨A4,c4,rfl,_,_⟩:=zag ho4
  have OA:=hD (At.own ho4)
  have RES4:=hD (RES3.o.over hb4)
  have N4:=hD (N3.o.below hb4)
  have W4:=hD (zaa W3.o hb4 lr)
  have AC5:=hD (AC4.o.below (hb4.mono hh3))
  have M4:=hD (M3.o.over hb4)
  clear ho4 hb4 RES3 N3 W3 AC4 M3
  have hoE:Hid (errB r=if zbh r=true then 0 else 1):=hD rfl
  have hoB:Hid (outB r=if zbh r=true then zaE r else []):=hD rfl
  generalize errB r=er at *
  generalize outB r=ob at *
  cases c1:zbh r
  ·have HF:Hid ((zbh r&&decide (zaE r=zdz b)&&z)=false):=hD (by rw [c1];rfl)
   obtain rfl:er=1:=by rw [hoE.o,c1];rfl
   clear c1
   go_wp2_with (with_reducible refine zbk rfl rfl ?_;refine Hid.o ?_)
   refine hD ?_
   go_wp2_with ((refine zar rfl (.tmp 4) (.tmp 59) rfl w.heap.size rfl (m:=zc3 0) rfl (zbS 0) RES4.o (zbg (zbS 0)) ?_;intro w9 hb9 hg9;have M9:=hD hb9;have HG9:=hD hg9;clear hb9 hg9;refine Hid.o ?_))
   refine hD ?_
   go_wp2
   refine zeF (p:=4) (q:=5) (r:=6) (v:=.int .i64 0) (u:=.int .i64 4) rfl rfl rfl rfl M9.o (zbS 0) rfl ?_
   unfold zdg
   rw [HP1.o,HP2.o,HP3.o,HF.o,if_neg (by decide),if_neg (by decide),if_neg (by decide)]
   exact ⟨rfl,W4.o.grown HG9.o W4.o.size (by simp)⟩
  ·obtain rfl:er=0:=by rw [hoE.o,c1];rfl
   obtain rfl:ob=zaE r:=by rw [hoB.o,c1];rfl
   clear hoE hoB
   go_wp2_with fail
   refine (zb6 w4 _ _ _ _ _ _ c4 c A4 _ _ _ OA.o AC5.o).mono ?_
   rintro e w5 ⟨rfl,rfl⟩
   cases c2:decide (zaE r=zdz b)
   ·have HF:Hid ((zbh r&&decide (zaE r=zdz b)&&z)=false):=hD (by rw [c2];simp)
    clear c1 c2
    go_wp2_with (with_reducible refine zbk rfl rfl ?_;refine Hid.o ?_)
    refine hD ?_
    go_wp2_with ((refine zar rfl (.tmp 4) (.tmp 59) rfl w.heap.size rfl (m:=zc3 0) rfl (zbS 0) RES4.o (zbg (zbS 0)) ?_;intro w9 hb9 hg9;have M9:=hD hb9;have HG9:=hD hg9;clear hb9 hg9;refine Hid.o ?_))
    refine hD ?_
    go_wp2
    refine zeF (p:=4) (q:=5) (r:=6) (v:=.int .i64 0) (u:=.int .i64 4) rfl rfl rfl rfl M9.o (zbS 0) rfl ?_
    unfold zdg
    rw [HP1.o,HP2.o,HP3.o,HF.o,if_neg (by decide),if_neg (by decide),if_neg (by decide)]
    exact ⟨rfl,W4.o.grown HG9.o W4.o.size (by simp)⟩
   ·go_wp2_with ((with_reducible refine zaA ?_ (.tmp 7) rfl q rfl M4.o X.o ?_);· rfl)
    refine (zqH w4 r _ X.o HK.o N4.o).mono ?_
    rw [HZ9.o]
    rintro e w6 ⟨rfl,hb6⟩
    have RES6:=hD (RES4.o.over hb6)
    have W6:=hD (zaa W4.o hb6 lr)
    have M6:=hD (M4.o.over hb6)
    clear hb6
    cases c3:z
    ·have HF:Hid ((zbh r&&decide (zaE r=zdz b)&&z)=false):=hD (by rw [c3];simp)
     clear c1 c2 c3
     go_wp2_with (with_reducible refine zbk rfl rfl ?_;refine Hid.o ?_)
     refine hD ?_
     go_wp2_with ((refine zar rfl (.tmp 4) (.tmp 59) rfl w.heap.size rfl (m:=zc3 0) rfl (zbS 0) RES6.o (zbg (zbS 0)) ?_;intro w9 hb9 hg9;have M9:=hD hb9;have HG9:=hD hg9;clear hb9 hg9;refine Hid.o ?_))
     refine hD ?_
     go_wp2
     refine zeF (p:=4) (q:=5) (r:=6) (v:=.int .i64 0) (u:=.int .i64 4) rfl rfl rfl rfl M9.o (zbS 0) rfl ?_
     unfold zdg
     rw [HP1.o,HP2.o,HP3.o,HF.o,if_neg (by decide),if_neg (by decide),if_neg (by decide)]
     exact ⟨rfl,W6.o.grown HG9.o W6.o.size (by simp)⟩
    ·have HF:Hid ((zbh r&&decide (zaE r=zdz b)&&z)=true):=hD (by rw [c1,c2,c3];rfl)
     clear c1 c2 c3
     go_wp2_with (with_reducible refine zaA rfl (.tmp 7) rfl q rfl M6.o X.o ?_;refine Hid.o ?_)
     refine hD ?_
     go_wp2_with ((refine zar rfl (.tmp 4) (.tmp 60) rfl w.heap.size rfl (m:=r) rfl X.o RES6.o (zbg (zbS 0)) ?_;intro w9 hb9 hg9;have M9:=hD hb9;have HG9:=hD hg9;clear hb9 hg9;refine Hid.o ?_))
     refine hD ?_
     go_wp2
     refine zeF (p:=4) (q:=5) (r:=6) (v:=.int .i64 ((2+x.toNat:Nat):Int)) (u:=.int .i64 0) rfl rfl (by first | rfl | simp) rfl M9.o X.o rfl ?_
     unfold zdg
     rw [HP1.o,HP2.o,HP3.o,HF.o,if_pos rfl,if_pos rfl,if_pos rfl,HQ.o]
     exact ⟨rfl,W6.o.grown HG9.o W6.o.size (by simp)⟩
theorem zjd (h:At w lo hi A n b) (hh:hi≤w.heap.size) (hc:n≤c) (hnn:n≤10000000000000) (hN:za1 w):Calls prog 171 #[.slice A n c,.int .i64 k] w (zdg w b k):=by
 by_cases hz:k=4∨k=16
 ·by_cases hs:zfQ b
  ·exact zpY w lo hi A n c b k h hh hnn hz hs
  ·exact zrX w lo hi A n c b k h hh hc hnn hz hs hN
 ·exact zrU w lo hi A n c b k h hz
end
end
section
open Go.RowKit
def zn5 (b:List UInt8) (k:Int):Mr:=if zbH b k=0∧zbD b k<b.length then zc3 0 else zcP b k
def zlk (b:List UInt8) (k:Int):Int:=if zbH b k=0∧zbD b k<b.length then 4 else zbH b k
theorem zk0 (b:List UInt8) (k:Int):(zcP b k).W:=by
 by_cases h:zbH b k=0
 ·have hz:k=4∨k=16:=by
   refine Decidable.byContradiction fun hn=>?_
   unfold zbH at h
   rw [if_pos hn] at h
   cases h
  obtain ⟨_,hw,_⟩:=(zeA hz (m:=zcP b k)).1 ⟨h,rfl⟩
  exact hw
 ·unfold zcP
  rw [if_neg h]
  exact zbS 0
set_option maxRecDepth 20000 in
set_option maxHeartbeats 1000000 in
theorem zqS (w:World) (lo hi:Nat) (A:Option Addr) (n c:Nat) (b:List UInt8) (k:Int) (h:At w lo hi A n b) (hh:hi≤w.heap.size) (hc:n≤c) (hnn:n≤10000000000000) (hN:za1 w) :
  Calls prog 154 #[.slice A n c,.int .i64 k] w fun e w'=>e = .returned (.tuple #[.agg (mroC (zn5 b k)),.int .i64 (zlk b k)])∧Below w.heap.size w w':=by
 have RES:Hid (Blk (w.alloc (.cells zMro 186)) w.heap.size 186 (mroC (zc3 0))):=hD (by rw [zkL];exact Blk.new w _ _)
 have W0:=hD ((Below.refl w.heap.size w).alloc lr (.cells zMro 186))
 have HN:=hD (hN.below W0.o)
 have HA:=hD (h.alloc hh (.cells zMro 186))
 have hn:=h.len
 have hh0:hi≤(w.alloc (.cells zMro 186)).heap.size:=Nat.le_trans hh W0.o.size
 have X:=hD (zk0 b k)
 have HR:Hid (zn5 b k=if zbH b k=0∧zbD b k<b.length then zc3 0 else zcP b k):=hD rfl
 have HE:Hid (zlk b k=if zbH b k=0∧zbD b k<b.length then 4 else zbH b k):=hD rfl
 rw [hn] at HR HE
 clear h hN
 go_enter func154,ntmps154
 go_wp2_with fail
 generalize hw0:w.alloc (.cells zMro 186)=w0 at RES W0 HA HN hh0 ⊢
 clear hw0
 refine (zjd w0 lo hi A n c b k HA.o hh0 hc hnn HN.o).mono ?_
 generalize hr:zcP b k=r at *
 generalize hu:zbD b k=u at *
 generalize he:zbH b k=er at *
 have HR1:=hD hr
 have HU1:=hD hu
 have HE1:=hD he
 clear hr hu he
 rintro e w1 ⟨h1,hb1⟩
 rw [HR1.o,HU1.o,HE1.o] at h1
 subst h1
 have RES1:=hD (RES.o.over hb1)
 have W1:=hD (zaa W0.o hb1 lr)
 have NEW:=hD (Blk.new w1 186 zMro)
 clear hb1 RES W0 HN HA
 go_wp2_with (refine zar rfl (.tmp 6) (.tmp 13) rfl w1.heap.size rfl (m:=r) rfl X.o NEW.o rfl ?_;intro w3 hb3 hg3;have M3:=hD hb3;have W23:Hid (Below w1.heap.size w1 w3):=hD (((Below.refl _ _).alloc lr _).grown hg3 (by simp) (by simp));clear hb3 hg3;refine Hid.o ?_)
 refine hD ?_
 clear NEW
 have RES3:=hD (RES1.o.over W23.o)
 have W3:=hD (zaa W1.o W23.o lr)
 generalize w1.heap.size=q at *
 clear RES1 W1 W23
 by_cases hc1:er=0∧u<n
 ·obtain ⟨e0,hlt⟩:=hc1
  have hp1:zn5 b k=zc3 0:=by rw [HR.o,if_pos ⟨e0,hlt⟩]
  have hp2:zlk b k=4:=by rw [HE.o,if_pos ⟨e0,hlt⟩]
  have H1:=hD hp1
  have H2:=hD hp2
  subst e0
  have hlt':(u:Int)<(n:Int):=by omega
  clear hp1 hp2 HR HE hlt
  go_wp2_with (with_reducible refine zbk rfl rfl ?_;refine Hid.o ?_)
  refine hD ?_
  go_wp2_with (refine zar rfl (.tmp 4) (.tmp 24) rfl w.heap.size rfl (m:=zc3 0) rfl (zbS 0) RES3.o (zbg (zbS 0)) ?_;intro w9 hb9 hg9;have M9:=hD hb9;have HG9:=hD hg9;clear hb9 hg9;refine Hid.o ?_)
  refine hD ?_
  go_wp2
  refine zle (p:=4) (q:=5) (v:=.int .i64 4) rfl rfl rfl M9.o (zbS 0) rfl ?_
  rw [H1.o,H2.o]
  exact ⟨rfl,W3.o.grown HG9.o W3.o.size (by simp)⟩
 ·have hp1:zn5 b k=r:=by rw [HR.o,if_neg hc1]
  have hp2:zlk b k=er:=by rw [HE.o,if_neg hc1]
  have H1:=hD hp1
  have H2:=hD hp2
  clear hp1 hp2 HR HE
  by_cases e0:er=0
  ·have hge:¬ ((u:Int)<(n:Int)):=fun h=>hc1 ⟨e0,by omega⟩
   subst e0
   clear hc1
   go_wp2_with (with_reducible refine zaA rfl (.tmp 6) rfl q rfl M3.o X.o ?_;refine Hid.o ?_)
   refine hD ?_
   go_wp2_with (refine zar rfl (.tmp 4) (.tmp 25) rfl w.heap.size rfl (m:=r) rfl X.o RES3.o (zbg (zbS 0)) ?_;intro w9 hb9 hg9;have M9:=hD hb9;have HG9:=hD hg9;clear hb9 hg9;refine Hid.o ?_)
   refine hD ?_
   go_wp2
   refine zle (p:=4) (q:=5) (v:=.int .i64 0) rfl rfl rfl M9.o X.o rfl ?_
   rw [H1.o,H2.o]
   exact ⟨rfl,W3.o.grown HG9.o W3.o.size (by simp)⟩
  ·have e0b:(er==0)=false:=beq_eq_false_iff_ne.2 e0
   clear hc1
   go_wp2_with (with_reducible refine zaA rfl (.tmp 6) rfl q rfl M3.o X.o ?_;refine Hid.o ?_)
   refine hD ?_
   go_wp2_with (refine zar rfl (.tmp 4) (.tmp 25) rfl w.heap.size rfl (m:=r) rfl X.o RES3.o (zbg (zbS 0)) ?_;intro w9 hb9 hg9;have M9:=hD hb9;have HG9:=hD hg9;clear hb9 hg9;refine Hid.o ?_)
   refine hD ?_
   go_wp2
   refine zle (p:=4) (q:=5) (v:=.int .i64 er) rfl rfl rfl M9.o X.o rfl ?_
   rw [H1.o,H2.o]
   exact ⟨rfl,W3.o.grown HG9.o W3.o.size (by simp)⟩
end
end Go.Proofs.YtplpglfjcieloaaGreatDoor
