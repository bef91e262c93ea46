/-
  What Right of package pmsi do, in whatever memory. No condition.
-/
import Derived.Test.YtblnkbfbhlhgkaaGreatDoorKSAG
set_option linter.unusedVariables false
set_option linter.unusedSimpArgs false
namespace Go.Proofs.YtblnkbfbhlhgkaaGreatDoor
section
open Go.RowKit
theorem zqS (t:Tun):zcK t=(decide (0≤t.l)&&(decide (t.l≤1048575)&&(zaF t.s t.bs&&zbx t.k t.s t.id))):=by
 unfold zcK
 by_cases h1:0≤t.l <;> by_cases h2:t.l≤1048575 <;> simp [h1,h2]
set_option maxHeartbeats 10000000 in
set_option maxRecDepth 20000 in
theorem zbb (w:World) (lf:Bool) (k l s:Int) (bs:List UInt8) (A:Option Addr) (n c lo hi:Nat) (id:List UInt8) (hA:At w lo hi A n id) (hh:hi≤w.heap.size) (hl:bs.length=16) :
  Calls Tryz.prog 67 #[.agg (tunC lf k l s bs (.slice A n c))] w fun e w'=>e = .returned (.bool (zcK ⟨lf,k,l,s,bs,id⟩))∧Below w.heap.size w w':=by
 have c2:=zcL lf k l s (.slice A n c) bs
 obtain ⟨ra,hra⟩:∃ r,zaF s bs=r:=⟨_,rfl⟩
 obtain ⟨ib,hib⟩:∃ r,zbx k s id=r:=⟨_,rfl⟩
 have HV:Hid (zcK ⟨lf,k,l,s,bs,id⟩=(decide (0≤l)&&(decide (l≤1048575)&&(ra&&ib)))):=hide (by rw [zqS];simp only [hra,hib])
 have HRA:=hide hra
 have HIB:=hide hib
 have HL:=hide hl
 have HB:=hide (Blk.new w 88 (tunC lf k l s bs (.slice A n c)))
 have HA:=hide (hA.alloc hh (.cells (tunC lf k l s bs (.slice A n c)) 88))
 have W0:Hid (Below w.heap.size w (w.alloc (.cells (tunC lf k l s bs (.slice A n c)) 88))):=hide ((Below.refl _ _).alloc (Nat.le_refl _) _)
 rw [HV.out]
 clear hra hib hl hA HV
 have D1:∀ q r:Bool,Hid (¬ 0≤l)→(decide (0≤l)&&(q&&r))=false:=fun q r h=>by rw [decide_eq_false h.out];rfl
 have D2:∀ q r:Bool,Hid (¬ l≤1048575)→(q&&(decide (l≤1048575)&&r))=false:=fun q r h=>by rw [decide_eq_false h.out];cases q <;> rfl
 by_cases h1:0≤l
 ·by_cases h2:l≤1048575
  ·clear D1 D2
   cases ra
   ·go_enter Tryz.func67,Tryz.ntmps67
    go_wp2_with (first
     | ((with_reducible refine za9 ?_ (.tmp 12) rfl w.heap.size rfl HB.out HL.out ?_);(· rfl))
     | (go_at_call 111;refine (zc9 _ s bs HL.out).mono ?_;rintro e w1 ⟨rfl,hb1⟩;rw [HRA.out];have W1:=hide (zaa W0.out hb1 (Nat.le_refl _));clear hb1))
    go_ret
    exact ⟨by simp,W1.out⟩
   ·cases ib
    all_goals
     go_enter Tryz.func67,Tryz.ntmps67
     go_wp2_with (first
      | ((with_reducible refine za9 ?_ (.tmp 12) rfl w.heap.size rfl HB.out HL.out ?_);(· rfl))
      | (go_at_call 111;refine (zc9 _ s bs HL.out).mono ?_;rintro e w1 ⟨rfl,hb1⟩;rw [HRA.out];have W1:=hide (zaa W0.out hb1 (Nat.le_refl _));have HB1:=hide (HB.out.over hb1);have HA1:=hide (HA.out.below (hb1.mono (by simp;omega)));have hz1:=hide (Nat.le_trans (Nat.le_trans hh W0.out.size) hb1.size);clear hb1)
      | ((with_reducible refine zgR ?_ (.tmp 1) rfl w.heap.size rfl HB1.out HL.out ?_);(· rfl))
      | (go_at_call 120;refine (zji _ lf k l s bs A n c lo hi id HA1.out hz1.out HL.out).mono ?_;rintro e w2 ⟨rfl,hb2⟩;rw [HIB.out];have W2:=hide (zaa W1.out hb2 (Nat.le_refl _));clear hb2))
     go_ret
     exact ⟨by simp [h1,h2],W2.out⟩
  ·rw [D2 _ _ (hide h2)]
   clear D1 D2
   go_enter Tryz.func67,Tryz.ntmps67
   go_wp2
   go_ret
   exact ⟨rfl,W0.out⟩
 ·rw [D1 _ _ (hide h1)]
  clear D1 D2
  go_enter Tryz.func67,Tryz.ntmps67
  go_wp2
  go_ret
  exact ⟨rfl,W0.out⟩
end
end Go.Proofs.YtblnkbfbhlhgkaaGreatDoor
