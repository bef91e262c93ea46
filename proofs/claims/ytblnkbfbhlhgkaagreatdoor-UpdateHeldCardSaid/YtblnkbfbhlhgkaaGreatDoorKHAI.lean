/-
  What identified and Right of package pmsi do, in whatever memory. No condition.
  What Right of package pmsi do, in whatever memory. No condition.
-/
import Derived.Test.YtblnkbfbhlhgkaaGreatDoorKHAH
set_option linter.unusedVariables false
set_option linter.unusedSimpArgs false
namespace Go.Proofs.YtblnkbfbhlhgkaaGreatDoor
section
open Go.RowKit
set_option maxHeartbeats 10000000 in
set_option maxRecDepth 20000 in
theorem zjs (w:World) (lf:Bool) (k l s:Int) (bs:List UInt8) (A:Option Addr) (n c lo hi:Nat) (id:List UInt8) (hA:At w lo hi A n id) (hh:hi≤w.heap.size) (hl:bs.length=16) :
  Calls Tryz.prog 120 #[.agg (tunC lf k l s bs (.slice A n c))] w fun e w'=>e = .returned (.bool (zbs k s id))∧Below w.heap.size w w':=by
 have c1:=zir lf k l s (.slice A n c) bs
 have c3:=zu4 lf k l s (.slice A n c) bs
 have c20:=zd8 lf k l s (.slice A n c) hl
 have hlen:=hA.len
 have HI:Hid (zbs k s id=if k=0 then decide (s=0∧n=0) else if k=1 then decide (s=4∧n=6) else if k=2∨k=7 then decide (0<s∧n≤64)
   else if k=3∨k=4∨k=5 then decide (s=n)&&zcv (ofS id) (ofB id) else if k=6 then decide (0<s∧n=0) else false):=by
  unfold zbs
  rw [hlen]
  exact hide rfl
 have HA:=hide (hA.alloc hh (.cells (tunC lf k l s bs (.slice A n c)) 88))
 have HL:=hide hl
 clear hl hA hlen
 by_cases h0:k=0
 ·subst h0
  rcases (show (s=0∧n=0)∨(s=0∧n≠0)∨s≠0 by omega) with ⟨rfl,rfl⟩ | ⟨rfl,hn⟩ | hs
  ·have hv:zbs 0 0 id=true:=by rw [HI.out];simp
   rw [hv]
   clear hv
   go_enter Tryz.func120,Tryz.ntmps120
   go_wp2
   go_quiet (fail)
   all_goals
    go_wp2
    go_ret
    exact ⟨by first | rfl | (simp;omega),zaH ((Below.refl _ _).alloc (Nat.le_refl _) _) _⟩
  ·have hv:zbs 0 0 id=false:=by rw [HI.out];simp [hn]
   rw [hv]
   clear hv
   have en:((n:Int)==0)=false:=beq_eq_false_iff_ne.2 (by omega)
   clear hn
   go_enter Tryz.func120,Tryz.ntmps120
   go_wp2
   go_quiet (fail)
   all_goals
    go_wp2
    go_ret
    exact ⟨by first | rfl | (simp;omega),zaH ((Below.refl _ _).alloc (Nat.le_refl _) _) _⟩
  ·have hv:zbs 0 s id=false:=by rw [HI.out];simp [hs]
   rw [hv]
   clear hv
   have es:(s==0)=false:=beq_eq_false_iff_ne.2 hs
   clear hs
   go_enter Tryz.func120,Tryz.ntmps120
   go_wp2
   go_quiet (fail)
   all_goals
    go_wp2
    go_ret
    exact ⟨by first | rfl | (simp;omega),zaH ((Below.refl _ _).alloc (Nat.le_refl _) _) _⟩
 by_cases h1:k=1
 ·subst h1
  rcases (show (s=4∧n=6)∨(s=4∧n≠6)∨s≠4 by omega) with ⟨rfl,rfl⟩ | ⟨rfl,hn⟩ | hs
  ·have hv:zbs 1 4 id=true:=by rw [HI.out];simp
   rw [hv]
   clear hv
   go_enter Tryz.func120,Tryz.ntmps120
   go_wp2
   go_quiet (fail)
   all_goals
    go_wp2
    go_ret
    exact ⟨by first | rfl | (simp;omega),zaH ((Below.refl _ _).alloc (Nat.le_refl _) _) _⟩
  ·have hv:zbs 1 4 id=false:=by rw [HI.out];simp [hn]
   rw [hv]
   clear hv
   have en:((n:Int)==6)=false:=beq_eq_false_iff_ne.2 (by omega)
   clear hn
   go_enter Tryz.func120,Tryz.ntmps120
   go_wp2
   go_quiet (fail)
   all_goals
    go_wp2
    go_ret
    exact ⟨by first | rfl | (simp;omega),zaH ((Below.refl _ _).alloc (Nat.le_refl _) _) _⟩
  ·have hv:zbs 1 s id=false:=by rw [HI.out];simp [hs]
   rw [hv]
   clear hv
   have es:(s==4)=false:=beq_eq_false_iff_ne.2 hs
   clear hs
   go_enter Tryz.func120,Tryz.ntmps120
   go_wp2
   go_quiet (fail)
   all_goals
    go_wp2
    go_ret
    exact ⟨by first | rfl | (simp;omega),zaH ((Below.refl _ _).alloc (Nat.le_refl _) _) _⟩
 by_cases h6:k=6
 ·subst h6
  rcases (show (0<s∧n=0)∨(0<s∧n≠0)∨¬ 0<s by omega) with ⟨hs,rfl⟩ | ⟨hs,hn⟩ | hs
  ·have hv:zbs 6 s id=true:=by rw [HI.out];simp [hs]
   rw [hv]
   clear hv
   go_enter Tryz.func120,Tryz.ntmps120
   go_wp2
   go_quiet (fail)
   all_goals
    go_wp2
    go_ret
    exact ⟨by first | rfl | (simp;omega),zaH ((Below.refl _ _).alloc (Nat.le_refl _) _) _⟩
  ·have hv:zbs 6 s id=false:=by rw [HI.out];simp [hn]
   rw [hv]
   clear hv
   have en:((n:Int)==0)=false:=beq_eq_false_iff_ne.2 (by omega)
   clear hn
   go_enter Tryz.func120,Tryz.ntmps120
   go_wp2
   go_quiet (fail)
   all_goals
    go_wp2
    go_ret
    exact ⟨by first | rfl | (simp;omega),zaH ((Below.refl _ _).alloc (Nat.le_refl _) _) _⟩
  ·have hv:zbs 6 s id=false:=by rw [HI.out];simp [hs]
   rw [hv]
   clear hv
   go_enter Tryz.func120,Tryz.ntmps120
   go_wp2
   go_quiet (fail)
   all_goals
    go_wp2
    go_ret
    exact ⟨by first | rfl | (simp;omega),zaH ((Below.refl _ _).alloc (Nat.le_refl _) _) _⟩
 by_cases h2:k=2
 ·subst h2
  rcases (show (0<s∧n≤64)∨(0<s∧¬ n≤64)∨¬ 0<s by omega) with ⟨hs,hn⟩ | ⟨hs,hn⟩ | hs
  ·have hv:zbs 2 s id=true:=by rw [HI.out];simp [hs,hn]
   rw [hv]
   clear hv
   have hn':(n:Int)≤64:=by omega
   clear hn
   go_enter Tryz.func120,Tryz.ntmps120
   go_wp2
   go_quiet (fail)
   all_goals
    go_wp2
    go_ret
    exact ⟨by first | rfl | (simp;omega),zaH ((Below.refl _ _).alloc (Nat.le_refl _) _) _⟩
  ·have hv:zbs 2 s id=false:=by rw [HI.out];simp [hn]
   rw [hv]
   clear hv
   have hn':¬ (n:Int)≤64:=by omega
   clear hn
   go_enter Tryz.func120,Tryz.ntmps120
   go_wp2
   go_quiet (fail)
   all_goals
    go_wp2
    go_ret
    exact ⟨by first | rfl | (simp;omega),zaH ((Below.refl _ _).alloc (Nat.le_refl _) _) _⟩
  ·have hv:zbs 2 s id=false:=by rw [HI.out];simp [hs]
   rw [hv]
   clear hv
   go_enter Tryz.func120,Tryz.ntmps120
   go_wp2
   go_quiet (fail)
   all_goals
    go_wp2
    go_ret
    exact ⟨by first | rfl | (simp;omega),zaH ((Below.refl _ _).alloc (Nat.le_refl _) _) _⟩
 by_cases h7:k=7
 ·subst h7
  rcases (show (0<s∧n≤64)∨(0<s∧¬ n≤64)∨¬ 0<s by omega) with ⟨hs,hn⟩ | ⟨hs,hn⟩ | hs
  ·have hv:zbs 7 s id=true:=by rw [HI.out];simp [hs,hn]
   rw [hv]
   clear hv
   have hn':(n:Int)≤64:=by omega
   clear hn
   go_enter Tryz.func120,Tryz.ntmps120
   go_wp2
   go_quiet (fail)
   all_goals
    go_wp2
    go_ret
    exact ⟨by first | rfl | (simp;omega),zaH ((Below.refl _ _).alloc (Nat.le_refl _) _) _⟩
  ·have hv:zbs 7 s id=false:=by rw [HI.out];simp [hn]
   rw [hv]
   clear hv
   have hn':¬ (n:Int)≤64:=by omega
   clear hn
   go_enter Tryz.func120,Tryz.ntmps120
   go_wp2
   go_quiet (fail)
   all_goals
    go_wp2
    go_ret
    exact ⟨by first | rfl | (simp;omega),zaH ((Below.refl _ _).alloc (Nat.le_refl _) _) _⟩
  ·have hv:zbs 7 s id=false:=by rw [HI.out];simp [hs]
   rw [hv]
   clear hv
   go_enter Tryz.func120,Tryz.ntmps120
   go_wp2
   go_quiet (fail)
   all_goals
    go_wp2
    go_ret
    exact ⟨by first | rfl | (simp;omega),zaH ((Below.refl _ _).alloc (Nat.le_refl _) _) _⟩
 by_cases h3:k=3
 ·subst h3
  by_cases hs:s=n
  ·have HE:=hide hs
   have hse:(s==(n:Int))=true:=by rw [hs];simp
   obtain ⟨r,hm⟩:∃ r,zcv (ofS id) (ofB id)=r:=⟨_,rfl⟩
   have HM:=hide hm
   have hv:zbs 3 s id=r:=by rw [HI.out,hm,hs];simp
   rw [hv]
   clear hv hm hs
   cases r
   all_goals
    go_enter Tryz.func120,Tryz.ntmps120
    go_wp2
    go_quiet (fail)
    all_goals
     go_wp2_with fail
     refine (zeT _ lo hi A n c id (HA.out.drewN _) (by simp;omega)).mono ?_
     rintro e w1 ⟨rfl,hb1⟩
     have W1:Hid (Below w.heap.size w w1):=hide ((zaH ((Below.refl _ _).alloc (Nat.le_refl _) _) _).trans (hb1.mono (by simp)))
     clear hb1
     go_wp2_with (first
     | (refine zat rfl (.tmp 5) (.tmp 48) rfl w1.heap.size rfl rfl (za6 id) (Blk.new w1 _ _) rfl ?_;intro w2 hb2 hg2;have HK2:=hide hb2;have W2:=hide (zcB W1.out (Nat.le_refl _) _ hg2 (Nat.le_refl _));clear hb2 hg2)
     | ((with_reducible refine zbA ?_ (.tmp 5) rfl w1.heap.size rfl HK2.out (za6 id) ?_);(· rfl))
     | (go_at_call 168;refine (zbU _ (ofS id) (ofB id) (za6 id)).mono ?_;rintro e w3 ⟨rfl,hb3⟩;rw [HM.out];have HB3:=hide hb3;clear hb3))
     go_ret
     exact ⟨rfl,W2.out.trans (HB3.out.mono W2.out.size)⟩
  ·have es:(s==(n:Int))=false:=beq_eq_false_iff_ne.2 hs
   have hv:zbs 3 s id=false:=by rw [HI.out];simp [hs]
   rw [hv]
   clear hv hs
   go_enter Tryz.func120,Tryz.ntmps120
   go_wp2
   go_quiet (fail)
   all_goals
    go_wp2_with fail
    refine (zeT _ lo hi A n c id (HA.out.drewN _) (by simp;omega)).mono ?_
    rintro e w1 ⟨rfl,hb1⟩
    have W1:Hid (Below w.heap.size w w1):=hide ((zaH ((Below.refl _ _).alloc (Nat.le_refl _) _) _).trans (hb1.mono (by simp)))
    clear hb1
    go_wp2_with (first
     | (refine zat rfl (.tmp 5) (.tmp 48) rfl w1.heap.size rfl rfl (za6 id) (Blk.new w1 _ _) rfl ?_;intro w2 hb2 hg2;have HK2:=hide hb2;have W2:=hide (zcB W1.out (Nat.le_refl _) _ hg2 (Nat.le_refl _));clear hb2 hg2)
     | ((with_reducible refine zbA ?_ (.tmp 5) rfl w1.heap.size rfl HK2.out (za6 id) ?_);(· rfl))
     | (go_at_call 168;refine (zbU _ (ofS id) (ofB id) (za6 id)).mono ?_;rintro e w3 ⟨rfl,hb3⟩;rw [HM];have HB3:=hide hb3;clear hb3))
    go_ret
    exact ⟨rfl,W2.out⟩
 by_cases h4:k=4
 ·subst h4
  by_cases hs:s=n
  ·have HE:=hide hs
   have hse:(s==(n:Int))=true:=by rw [hs];simp
   obtain ⟨r,hm⟩:∃ r,zcv (ofS id) (ofB id)=r:=⟨_,rfl⟩
   have HM:=hide hm
   have hv:zbs 4 s id=r:=by rw [HI.out,hm,hs];simp
   rw [hv]
   clear hv hm hs
   cases r
   all_goals
    go_enter Tryz.func120,Tryz.ntmps120
    go_wp2
    go_quiet (fail)
    all_goals
     go_wp2_with fail
     refine (zeT _ lo hi A n c id (HA.out.drewN _) (by simp;omega)).mono ?_
     rintro e w1 ⟨rfl,hb1⟩
     have W1:Hid (Below w.heap.size w w1):=hide ((zaH ((Below.refl _ _).alloc (Nat.le_refl _) _) _).trans (hb1.mono (by simp)))
     clear hb1
     go_wp2_with (first
     | (refine zat rfl (.tmp 5) (.tmp 48) rfl w1.heap.size rfl rfl (za6 id) (Blk.new w1 _ _) rfl ?_;intro w2 hb2 hg2;have HK2:=hide hb2;have W2:=hide (zcB W1.out (Nat.le_refl _) _ hg2 (Nat.le_refl _));clear hb2 hg2)
     | ((with_reducible refine zbA ?_ (.tmp 5) rfl w1.heap.size rfl HK2.out (za6 id) ?_);(· rfl))
     | (go_at_call 168;refine (zbU _ (ofS id) (ofB id) (za6 id)).mono ?_;rintro e w3 ⟨rfl,hb3⟩;rw [HM.out];have HB3:=hide hb3;clear hb3))
     go_ret
     exact ⟨rfl,W2.out.trans (HB3.out.mono W2.out.size)⟩
  ·have es:(s==(n:Int))=false:=beq_eq_false_iff_ne.2 hs
   have hv:zbs 4 s id=false:=by rw [HI.out];simp [hs]
   rw [hv]
   clear hv hs
   go_enter Tryz.func120,Tryz.ntmps120
   go_wp2
   go_quiet (fail)
   all_goals
    go_wp2_with fail
    refine (zeT _ lo hi A n c id (HA.out.drewN _) (by simp;omega)).mono ?_
    rintro e w1 ⟨rfl,hb1⟩
    have W1:Hid (Below w.heap.size w w1):=hide ((zaH ((Below.refl _ _).alloc (Nat.le_refl _) _) _).trans (hb1.mono (by simp)))
    clear hb1
    go_wp2_with (first
     | (refine zat rfl (.tmp 5) (.tmp 48) rfl w1.heap.size rfl rfl (za6 id) (Blk.new w1 _ _) rfl ?_;intro w2 hb2 hg2;have HK2:=hide hb2;have W2:=hide (zcB W1.out (Nat.le_refl _) _ hg2 (Nat.le_refl _));clear hb2 hg2)
     | ((with_reducible refine zbA ?_ (.tmp 5) rfl w1.heap.size rfl HK2.out (za6 id) ?_);(· rfl))
     | (go_at_call 168;refine (zbU _ (ofS id) (ofB id) (za6 id)).mono ?_;rintro e w3 ⟨rfl,hb3⟩;rw [HM];have HB3:=hide hb3;clear hb3))
    go_ret
    exact ⟨rfl,W2.out⟩
 by_cases h5:k=5
 ·subst h5
  by_cases hs:s=n
  ·have HE:=hide hs
   have hse:(s==(n:Int))=true:=by rw [hs];simp
   obtain ⟨r,hm⟩:∃ r,zcv (ofS id) (ofB id)=r:=⟨_,rfl⟩
   have HM:=hide hm
   have hv:zbs 5 s id=r:=by rw [HI.out,hm,hs];simp
   rw [hv]
   clear hv hm hs
   cases r
   all_goals
    go_enter Tryz.func120,Tryz.ntmps120
    go_wp2
    go_quiet (fail)
    all_goals
     go_wp2_with fail
     refine (zeT _ lo hi A n c id (HA.out.drewN _) (by simp;omega)).mono ?_
     rintro e w1 ⟨rfl,hb1⟩
     have W1:Hid (Below w.heap.size w w1):=hide ((zaH ((Below.refl _ _).alloc (Nat.le_refl _) _) _).trans (hb1.mono (by simp)))
     clear hb1
     go_wp2_with (first
     | (refine zat rfl (.tmp 5) (.tmp 48) rfl w1.heap.size rfl rfl (za6 id) (Blk.new w1 _ _) rfl ?_;intro w2 hb2 hg2;have HK2:=hide hb2;have W2:=hide (zcB W1.out (Nat.le_refl _) _ hg2 (Nat.le_refl _));clear hb2 hg2)
     | ((with_reducible refine zbA ?_ (.tmp 5) rfl w1.heap.size rfl HK2.out (za6 id) ?_);(· rfl))
     | (go_at_call 168;refine (zbU _ (ofS id) (ofB id) (za6 id)).mono ?_;rintro e w3 ⟨rfl,hb3⟩;rw [HM.out];have HB3:=hide hb3;clear hb3))
     go_ret
     exact ⟨rfl,W2.out.trans (HB3.out.mono W2.out.size)⟩
  ·have es:(s==(n:Int))=false:=beq_eq_false_iff_ne.2 hs
   have hv:zbs 5 s id=false:=by rw [HI.out];simp [hs]
   rw [hv]
   clear hv hs
   go_enter Tryz.func120,Tryz.ntmps120
   go_wp2
   go_quiet (fail)
   all_goals
    go_wp2_with fail
    refine (zeT _ lo hi A n c id (HA.out.drewN _) (by simp;omega)).mono ?_
    rintro e w1 ⟨rfl,hb1⟩
    have W1:Hid (Below w.heap.size w w1):=hide ((zaH ((Below.refl _ _).alloc (Nat.le_refl _) _) _).trans (hb1.mono (by simp)))
    clear hb1
    go_wp2_with (first
     | (refine zat rfl (.tmp 5) (.tmp 48) rfl w1.heap.size rfl rfl (za6 id) (Blk.new w1 _ _) rfl ?_;intro w2 hb2 hg2;have HK2:=hide hb2;have W2:=hide (zcB W1.out (Nat.le_refl _) _ hg2 (Nat.le_refl _));clear hb2 hg2)
     | ((with_reducible refine zbA ?_ (.tmp 5) rfl w1.heap.size rfl HK2.out (za6 id) ?_);(· rfl))
     | (go_at_call 168;refine (zbU _ (ofS id) (ofB id) (za6 id)).mono ?_;rintro e w3 ⟨rfl,hb3⟩;rw [HM];have HB3:=hide hb3;clear hb3))
    go_ret
    exact ⟨rfl,W2.out⟩
 have hv:zbs k s id=false:=by rw [HI.out];simp [h0,h1,h2,h3,h4,h5,h6,h7]
 rw [hv]
 clear hv
 have e0:(k==0)=false:=beq_eq_false_iff_ne.2 h0
 have e1:(k==1)=false:=beq_eq_false_iff_ne.2 h1
 have e2:(k==2)=false:=beq_eq_false_iff_ne.2 h2
 have e3:(k==3)=false:=beq_eq_false_iff_ne.2 h3
 have e4:(k==4)=false:=beq_eq_false_iff_ne.2 h4
 have e5:(k==5)=false:=beq_eq_false_iff_ne.2 h5
 have e6:(k==6)=false:=beq_eq_false_iff_ne.2 h6
 have e7:(k==7)=false:=beq_eq_false_iff_ne.2 h7
 clear h0 h1 h2 h3 h4 h5 h6 h7
 go_enter Tryz.func120,Tryz.ntmps120
 go_wp2
 go_quiet (fail)
 all_goals
  go_wp2
  go_ret
  exact ⟨rfl,zaH ((Below.refl _ _).alloc (Nat.le_refl _) _) _⟩
end
section
open Go.RowKit
theorem zrf (t:Tun):zcD t=(decide (0≤t.l)&&(decide (t.l≤1048575)&&(zaD t.s t.bs&&zbs t.k t.s t.id))):=by
 unfold zcD
 by_cases h1:0≤t.l <;> by_cases h2:t.l≤1048575 <;> simp [h1,h2]
set_option maxHeartbeats 10000000 in
set_option maxRecDepth 20000 in
theorem zft (w:World) (lf:Bool) (k l s:Int) (bs:List UInt8) (A:Option Addr) (n c lo hi:Nat) (id:List UInt8) (hA:At w lo hi A n id) (hh:hi≤w.heap.size) (hl:bs.length=16) :
  Calls Tryz.prog 67 #[.agg (tunC lf k l s bs (.slice A n c))] w fun e w'=>e = .returned (.bool (zcD ⟨lf,k,l,s,bs,id⟩))∧Below w.heap.size w w':=by
 have c2:=zlv lf k l s (.slice A n c) bs
 obtain ⟨ra,hra⟩:∃ r,zaD s bs=r:=⟨_,rfl⟩
 obtain ⟨ib,hib⟩:∃ r,zbs k s id=r:=⟨_,rfl⟩
 have HV:Hid (zcD ⟨lf,k,l,s,bs,id⟩=(decide (0≤l)&&(decide (l≤1048575)&&(ra&&ib)))):=hide (by rw [zrf];simp only [hra,hib])
 have HRA:=hide hra
 have HIB:=hide hib
 have HL:=hide hl
 have HB:=hide (Blk.new w 88 (tunC lf k l s bs (.slice A n c)))
 have HA:=hide (hA.alloc hh (.cells (tunC lf k l s bs (.slice A n c)) 88))
 have W0:Hid (Below w.heap.size w (w.alloc (.cells (tunC lf k l s bs (.slice A n c)) 88))):=hide ((Below.refl _ _).alloc (Nat.le_refl _) _)
 rw [HV.out]
 clear hra hib hl hA HV
 have D1:∀ q r:Bool,Hid (¬ 0≤l)→(decide (0≤l)&&(q&&r))=false:=fun q r h=>by rw [decide_eq_false h.out];rfl
 have D2:∀ q r:Bool,Hid (¬ l≤1048575)→(q&&(decide (l≤1048575)&&r))=false:=fun q r h=>by rw [decide_eq_false h.out];cases q <;> rfl
 by_cases h1:0≤l
 ·by_cases h2:l≤1048575
  ·clear D1 D2
   cases ra
   ·go_enter Tryz.func67,Tryz.ntmps67
    go_wp2_with (first
     | ((with_reducible refine zck ?_ (.tmp 12) rfl w.heap.size rfl HB.out HL.out ?_);(· rfl))
     | (go_at_call 111;refine (zc8 _ s bs HL.out).mono ?_;rintro e w1 ⟨rfl,hb1⟩;rw [HRA.out];have W1:=hide (zaa W0.out hb1 (Nat.le_refl _));clear hb1))
    go_ret
    exact ⟨by simp,W1.out⟩
   ·cases ib
    all_goals
     go_enter Tryz.func67,Tryz.ntmps67
     go_wp2_with (first
      | ((with_reducible refine zck ?_ (.tmp 12) rfl w.heap.size rfl HB.out HL.out ?_);(· rfl))
      | (go_at_call 111;refine (zc8 _ s bs HL.out).mono ?_;rintro e w1 ⟨rfl,hb1⟩;rw [HRA.out];have W1:=hide (zaa W0.out hb1 (Nat.le_refl _));have HB1:=hide (HB.out.over hb1);have HA1:=hide (HA.out.below (hb1.mono (by simp;omega)));have hz1:=hide (Nat.le_trans (Nat.le_trans hh W0.out.size) hb1.size);clear hb1)
      | ((with_reducible refine zgV ?_ (.tmp 1) rfl w.heap.size rfl HB1.out HL.out ?_);(· rfl))
      | (go_at_call 120;refine (zjs _ lf k l s bs A n c lo hi id HA1.out hz1.out HL.out).mono ?_;rintro e w2 ⟨rfl,hb2⟩;rw [HIB.out];have W2:=hide (zaa W1.out hb2 (Nat.le_refl _));clear hb2))
     go_ret
     exact ⟨by simp [h1,h2],W2.out⟩
  ·rw [D2 _ _ (hide h2)]
   clear D1 D2
   go_enter Tryz.func67,Tryz.ntmps67
   go_wp2
   go_ret
   exact ⟨rfl,W0.out⟩
 ·rw [D1 _ _ (hide h1)]
  clear D1 D2
  go_enter Tryz.func67,Tryz.ntmps67
  go_wp2
  go_ret
  exact ⟨rfl,W0.out⟩
end
end Go.Proofs.YtblnkbfbhlhgkaaGreatDoor
