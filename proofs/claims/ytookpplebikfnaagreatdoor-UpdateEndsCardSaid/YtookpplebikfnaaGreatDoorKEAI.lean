/-
  What identified and Right of package pmsi do, in whatever memory. No condition.
  What Right of package pmsi do, in whatever memory. No condition.
-/
import Derived.Test.YtookpplebikfnaaGreatDoorKEAH
set_option linter.unusedVariables false
set_option linter.unusedSimpArgs false
namespace Go.Proofs.YtookpplebikfnaaGreatDoor
section
open Go.RowKit
set_option maxHeartbeats 10000000 in
set_option maxRecDepth 20000 in
theorem zjn (w:World) (lf:Bool) (k l s:Int) (bs:List UInt8) (A:Option Addr) (n c lo hi:Nat) (id:List UInt8) (hA:At w lo hi A n id) (hh:hi≤w.heap.size) (hl:bs.length=16) :
  Calls Tryz.prog 89 #[.agg (tunC lf k l s bs (.slice A n c))] w fun e w'=>e = .returned (.bool (zdb k s id))∧Below w.heap.size w w':=by
 have c1:=zik lf k l s (.slice A n c) bs
 have c3:=zuY lf k l s (.slice A n c) bs
 have c20:=ze2 lf k l s (.slice A n c) hl
 have hlen:=hA.len
 have HI:Hid (zdb k s id=if k=0 then decide (s=0∧n=0) else if k=1 then decide (s=4∧n=6) else if k=2∨k=7 then decide (0<s∧n≤64)
   else if k=3∨k=4∨k=5 then decide (s=n)&&zcG (ofS id) (ofB id) else if k=6 then decide (0<s∧n=0) else false):=by
  unfold zdb
  rw [hlen]
  exact hide rfl
 have HA:=hide (hA.alloc hh (.cells (tunC lf k l s bs (.slice A n c)) 77))
 have HL:=hide hl
 clear hl hA hlen
 by_cases h0:k=0∨k=1∨k=2∨k=6∨k=7
 ·obtain ⟨p1,e1⟩:∃ p,(s==0)=p:=⟨_,rfl⟩
  obtain ⟨p2,e2⟩:∃ p,(s==4)=p:=⟨_,rfl⟩
  obtain ⟨p3,e3⟩:∃ p,decide (0<s)=p:=⟨_,rfl⟩
  obtain ⟨q1,f1⟩:∃ p,((n:Int)==0)=p:=⟨_,rfl⟩
  obtain ⟨q2,f2⟩:∃ p,((n:Int)==6)=p:=⟨_,rfl⟩
  obtain ⟨q3,f3⟩:∃ p,decide ((n:Int)≤64)=p:=⟨_,rfl⟩
  have hv:zdb k s id=if k=0 then p1&&q1 else if k=1 then p2&&q2 else if k=6 then p3&&q1 else p3&&q3:=by
   rw [HI.out,← e1,← e2,← e3,← f1,← f2,← f3]
   rcases h0 with rfl | rfl | rfl | rfl | rfl <;> rw [Bool.eq_iff_iff] <;> simp <;> omega
  rw [hv]
  clear hv
  rcases h0 with rfl | rfl | rfl | rfl | rfl
  ·clear e2 e3 f2 f3
   cases p1 <;> cases q1
   all_goals
    go_enter Tryz.func89,Tryz.ntmps89
    go_wp2
    go_quiet (fail)
    all_goals
     go_wp2
     go_ret
     exact ⟨by first | rfl | (simp;omega),zcd ((Below.refl _ _).alloc (Nat.le_refl _) _) _⟩
  ·clear e1 e3 f1 f3
   cases p2 <;> cases q2
   all_goals
    go_enter Tryz.func89,Tryz.ntmps89
    go_wp2
    go_quiet (fail)
    all_goals
     go_wp2
     go_ret
     exact ⟨by first | rfl | (simp;omega),zcd ((Below.refl _ _).alloc (Nat.le_refl _) _) _⟩
  ·clear e1 e2 f1 f2
   cases p3 <;> cases q3
   all_goals
    go_enter Tryz.func89,Tryz.ntmps89
    go_wp2
    go_quiet (fail)
    all_goals
     go_wp2
     go_ret
     exact ⟨by first | rfl | (simp;omega),zcd ((Below.refl _ _).alloc (Nat.le_refl _) _) _⟩
  ·clear e1 e2 f2 f3
   cases p3 <;> cases q1
   all_goals
    go_enter Tryz.func89,Tryz.ntmps89
    go_wp2
    go_quiet (fail)
    all_goals
     go_wp2
     go_ret
     exact ⟨by first | rfl | (simp;omega),zcd ((Below.refl _ _).alloc (Nat.le_refl _) _) _⟩
  ·clear e1 e2 f1 f2
   cases p3 <;> cases q3
   all_goals
    go_enter Tryz.func89,Tryz.ntmps89
    go_wp2
    go_quiet (fail)
    all_goals
     go_wp2
     go_ret
     exact ⟨by first | rfl | (simp;omega),zcd ((Below.refl _ _).alloc (Nat.le_refl _) _) _⟩
 by_cases h3:k=3∨k=4∨k=5
 ·have HV3:Hid (zdb k s id=(decide (s=n)&&zcG (ofS id) (ofB id))):=hide (by rw [HI.out];rcases h3 with rfl | rfl | rfl <;> simp)
  clear h0
  rcases h3 with rfl | rfl | rfl
  all_goals
   by_cases hs:s=n
   ·have HE:=hide hs
    have hse:(s==(n:Int))=true:=by rw [hs];simp
    obtain ⟨r,hm⟩:∃ r,zcG (ofS id) (ofB id)=r:=⟨_,rfl⟩
    have HM:=hide hm
    have hv:=HV3.out
    rw [hm,decide_eq_true hs,Bool.true_and] at hv
    rw [hv]
    clear hv hm hs
    cases r
    all_goals
     go_enter Tryz.func89,Tryz.ntmps89
     go_wp2
     go_quiet (fail)
     all_goals
      go_wp2_with fail
      refine (zht _ lo hi A n c id (HA.out.drewN _) (by simp;omega)).mono ?_
      rintro e w1 ⟨rfl,hb1⟩
      have W1:Hid (Below w.heap.size w w1):=hide ((zcd ((Below.refl _ _).alloc (Nat.le_refl _) _) _).trans (hb1.mono (by simp)))
      clear hb1
      go_wp2_with (first
      | (refine zaD rfl (.tmp 5) (.tmp 48) rfl w1.heap.size rfl rfl (zb2 id) (Blk.new w1 _ _) rfl ?_;intro w2 hb2 hg2;have HK2:=hide hb2;have W2:=hide (zer W1.out (Nat.le_refl _) _ hg2 (Nat.le_refl _));clear hb2 hg2)
      | ((with_reducible refine zd2 ?_ (.tmp 5) rfl w1.heap.size rfl HK2.out (zb2 id) ?_);(· rfl))
      | (go_at_call 131;refine (zdH _ (ofS id) (ofB id) (zb2 id)).mono ?_;rintro e w3 ⟨rfl,hb3⟩;rw [HM.out];have HB3:=hide hb3;clear hb3))
      go_ret
      exact ⟨rfl,W2.out.trans (HB3.out.mono W2.out.size)⟩
   ·have es:(s==(n:Int))=false:=beq_eq_false_iff_ne.2 hs
    have hv:=HV3.out
    rw [decide_eq_false hs,Bool.false_and] at hv
    rw [hv]
    clear hv hs
    go_enter Tryz.func89,Tryz.ntmps89
    go_wp2
    go_quiet (fail)
    all_goals
     go_wp2_with fail
     refine (zht _ lo hi A n c id (HA.out.drewN _) (by simp;omega)).mono ?_
     rintro e w1 ⟨rfl,hb1⟩
     have W1:Hid (Below w.heap.size w w1):=hide ((zcd ((Below.refl _ _).alloc (Nat.le_refl _) _) _).trans (hb1.mono (by simp)))
     clear hb1
     go_wp2_with (first
      | (refine zaD rfl (.tmp 5) (.tmp 48) rfl w1.heap.size rfl rfl (zb2 id) (Blk.new w1 _ _) rfl ?_;intro w2 hb2 hg2;have HK2:=hide hb2;have W2:=hide (zer W1.out (Nat.le_refl _) _ hg2 (Nat.le_refl _));clear hb2 hg2)
      | ((with_reducible refine zd2 ?_ (.tmp 5) rfl w1.heap.size rfl HK2.out (zb2 id) ?_);(· rfl))
      | (go_at_call 131;refine (zdH _ (ofS id) (ofB id) (zb2 id)).mono ?_;rintro e w3 ⟨rfl,hb3⟩;rw [HM];have HB3:=hide hb3;clear hb3))
     go_ret
     exact ⟨rfl,W2.out⟩
 obtain ⟨h0,h1,h2,h3,h4,h5,h6,h7⟩:k≠0∧k≠1∧k≠2∧k≠3∧k≠4∧k≠5∧k≠6∧k≠7:=by omega
 have hv:zdb k s id=false:=by rw [HI.out];simp [h0,h1,h2,h3,h4,h5,h6,h7]
 rw [hv]
 clear hv
 have e0:(k==0)=false:=beq_eq_false_iff_ne.2 h0
 have e1:(k==1)=false:=beq_eq_false_iff_ne.2 h1
 have e2:(k==2)=false:=beq_eq_false_iff_ne.2 h2
 have e3:(k==3)=false:=beq_eq_false_iff_ne.2 h3
 have e4:(k==4)=false:=beq_eq_false_iff_ne.2 h4
 have e5:(k==5)=false:=beq_eq_false_iff_ne.2 h5
 have e6:(k==6)=false:=beq_eq_false_iff_ne.2 h6
 have e7:(k==7)=false:=beq_eq_false_iff_ne.2 h7
 clear h0 h1 h2 h3 h4 h5 h6 h7
 go_enter Tryz.func89,Tryz.ntmps89
 go_wp2
 go_quiet (fail)
 all_goals
  go_wp2
  go_ret
  exact ⟨rfl,zcd ((Below.refl _ _).alloc (Nat.le_refl _) _) _⟩
end
section
open Go.RowKit
theorem zrf (t:Tun):zbO t=(decide (0≤t.l)&&(decide (t.l≤1048575)&&(zaC t.s t.bs&&zdb t.k t.s t.id))):=by
 unfold zbO
 by_cases h1:0≤t.l <;> by_cases h2:t.l≤1048575 <;> simp [h1,h2]
set_option maxHeartbeats 10000000 in
set_option maxRecDepth 20000 in
theorem zfv (w:World) (lf:Bool) (k l s:Int) (bs:List UInt8) (A:Option Addr) (n c lo hi:Nat) (id:List UInt8) (hA:At w lo hi A n id) (hh:hi≤w.heap.size) (hl:bs.length=16) :
  Calls Tryz.prog 49 #[.agg (tunC lf k l s bs (.slice A n c))] w fun e w'=>e = .returned (.bool (zbO ⟨lf,k,l,s,bs,id⟩))∧Below w.heap.size w w':=by
 have c2:=zls lf k l s (.slice A n c) bs
 obtain ⟨ra,hra⟩:∃ r,zaC s bs=r:=⟨_,rfl⟩
 obtain ⟨ib,hib⟩:∃ r,zdb k s id=r:=⟨_,rfl⟩
 have HV:Hid (zbO ⟨lf,k,l,s,bs,id⟩=(decide (0≤l)&&(decide (l≤1048575)&&(ra&&ib)))):=hide (by rw [zrf];simp only [hra,hib])
 have HRA:=hide hra
 have HIB:=hide hib
 have HL:=hide hl
 have HB:=hide (Blk.new w 77 (tunC lf k l s bs (.slice A n c)))
 have HA:=hide (hA.alloc hh (.cells (tunC lf k l s bs (.slice A n c)) 77))
 have W0:Hid (Below w.heap.size w (w.alloc (.cells (tunC lf k l s bs (.slice A n c)) 77))):=hide ((Below.refl _ _).alloc (Nat.le_refl _) _)
 rw [HV.out]
 clear hra hib hl hA HV
 have D1:∀ q r:Bool,Hid (¬ 0≤l)→(decide (0≤l)&&(q&&r))=false:=fun q r h=>by rw [decide_eq_false h.out];rfl
 have D2:∀ q r:Bool,Hid (¬ l≤1048575)→(q&&(decide (l≤1048575)&&r))=false:=fun q r h=>by rw [decide_eq_false h.out];cases q <;> rfl
 by_cases h1:0≤l
 ·by_cases h2:l≤1048575
  ·clear D1 D2
   cases ra
   ·go_enter Tryz.func49,Tryz.ntmps49
    go_wp2_with (first
     | ((with_reducible refine zco ?_ (.tmp 12) rfl w.heap.size rfl HB.out HL.out ?_);(· rfl))
     | (go_at_call 80;refine (zc6 _ s bs HL.out).mono ?_;rintro e w1 ⟨rfl,hb1⟩;rw [HRA.out];have W1:=hide (zaa W0.out hb1 (Nat.le_refl _));clear hb1))
    go_ret
    exact ⟨by simp,W1.out⟩
   ·cases ib
    all_goals
     go_enter Tryz.func49,Tryz.ntmps49
     go_wp2_with (first
      | ((with_reducible refine zco ?_ (.tmp 12) rfl w.heap.size rfl HB.out HL.out ?_);(· rfl))
      | (go_at_call 80;refine (zc6 _ s bs HL.out).mono ?_;rintro e w1 ⟨rfl,hb1⟩;rw [HRA.out];have W1:=hide (zaa W0.out hb1 (Nat.le_refl _));have HB1:=hide (HB.out.over hb1);have HA1:=hide (HA.out.below (hb1.mono (by simp;omega)));have hz1:=hide (Nat.le_trans (Nat.le_trans hh W0.out.size) hb1.size);clear hb1)
      | ((with_reducible refine zgT ?_ (.tmp 1) rfl w.heap.size rfl HB1.out HL.out ?_);(· rfl))
      | (go_at_call 89;refine (zjn _ lf k l s bs A n c lo hi id HA1.out hz1.out HL.out).mono ?_;rintro e w2 ⟨rfl,hb2⟩;rw [HIB.out];have W2:=hide (zaa W1.out hb2 (Nat.le_refl _));clear hb2))
     go_ret
     exact ⟨by simp [h1,h2],W2.out⟩
  ·rw [D2 _ _ (hide h2)]
   clear D1 D2
   go_enter Tryz.func49,Tryz.ntmps49
   go_wp2
   go_ret
   exact ⟨rfl,W0.out⟩
 ·rw [D1 _ _ (hide h1)]
  clear D1 D2
  go_enter Tryz.func49,Tryz.ntmps49
  go_wp2
  go_ret
  exact ⟨rfl,W0.out⟩
end
end Go.Proofs.YtookpplebikfnaaGreatDoor
