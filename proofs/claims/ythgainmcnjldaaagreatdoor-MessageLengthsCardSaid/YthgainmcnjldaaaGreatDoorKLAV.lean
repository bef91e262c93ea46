/-
  Which tables and updates are right: isMroute, isUroute, rightRoutes, rightTable, few, Right of package update, in whatever memory. The one condition beyond sizes that fit memory: the program's tables hold what its text lays.
  The value of a table that is right: numberOf, aheadOf, nextBytes, value of package update, in whatever memory. The one condition beyond sizes that fit memory: the program's tables hold what its text lays.
-/
import Derived.Test.YthgainmcnjldaaaGreatDoorKLAP
import Derived.Test.YthgainmcnjldaaaGreatDoorKLAU
set_option linter.unusedVariables false
set_option linter.unusedSimpArgs false
namespace Go.Proofs.YthgainmcnjldaaaGreatDoor
section
set_option maxRecDepth 20000
set_option maxHeartbeats 1000000
open Go.RowKit
theorem ztk (b:List UInt8) (k:Int):(zlx b k).W:=by
 unfold zlx
 split
 ·exact ⟨rfl,rfl,rfl,rfl⟩
 ·exact zoA b k
theorem zk8 {m:Mr} (w:m.W):(outB m).length≤110:=by
 unfold outB
 cases h:za3 m
 ·exact Nat.zero_le _
 ·exact zeg w h
structure FitT (x:TbP):Prop where
 m:x.mn≤1260000000000
 u:x.un≤3000000000000
 k:∀ m∈x.ms,m.key.length≤140737488351232
theorem zpL (w:World) (m:Mr) (s:Int) (hm:m.W) (hkey:m.key.length≤140737488351232) (hN:zaK w) :
  Calls Tryz.prog 163 #[.agg (mroC m),.int .i64 s] w fun e w'=>e = .returned (.bool (isM s m))∧Below w.heap.size w w':=by
 have W0:=hide ((Below.refl w.heap.size w).alloc (Nat.le_refl _) (.cells (mroC m) 119))
 have HB:=hide (Blk.new w 119 (mroC m))
 have HN:=hide (hN.below W0.out)
 have HM:=hide hm
 have HO:=hide (zk8 hm)
 have HKY:=hide hkey
 have HP:=hide (ztk (outB m) s)
 obtain ⟨r,hr⟩:∃ r,isM s m=r:=⟨_,rfl⟩
 have HR:Hid (decide (zly (outB m) s=0)=r):=hide hr
 rw [hr]
 clear hr hm hN hkey
 go_enter Tryz.func163,Tryz.ntmps163
 go_wp2_with (with_reducible refine zat rfl (.tmp 2) rfl w.heap.size rfl HB.out HM.out ?_)
 refine (zf2 _ m HM.out HKY.out HN.out).mono ?_
 rintro e w1 ⟨v1,rfl,ho1,hb1⟩
 obtain ⟨A1,c1,rfl,hc1,_⟩:=zac ho1
 have AT1:=hide (At.own ho1)
 have W1:=hide (zaa W0.out hb1 (Nat.le_refl _))
 have N1:=hide (HN.out.below hb1)
 have hl1:(outB m).length≤10000000000000:=by have:=HO.out;omega
 generalize errB m=er at *
 clear ho1 hb1
 go_wp2_with fail
 refine (znF w1 _ _ A1 _ c1 (outB m) s AT1.out (Nat.le_refl _) hc1 hl1 N1.out).mono ?_
 generalize zlx (outB m) s=pr at *
 generalize zly (outB m) s=pe at *
 rintro e w2 ⟨rfl,hb2⟩
 have W2:=hide (zaa W1.out hb2 (Nat.le_refl _))
 have NEW:=hide (Blk.new w2 119 zMro)
 clear hb2
 go_wp2_with (refine zan rfl (.tmp 7) (.tmp 18) rfl w2.heap.size rfl (m:=pr) rfl HP.out NEW.out rfl ?_;intro w3 hb3 hg3;have W3:Hid (Below w2.heap.size w2 w3):=hide (((Below.refl _ _).alloc (Nat.le_refl _) _).grown hg3 (by simp) (by simp));clear hb3 hg3;refine Hid.out ?_)
 refine hide ?_
 clear NEW
 go_wp2
 go_ret
 exact ⟨by rw [← HR.out];rfl,zaa W2.out W3.out (Nat.le_refl _)⟩
theorem zpK (w:World) (u:Ur) (s:Int) (hu:u.W) :
  Calls Tryz.prog 166 #[.agg (uroC u),.int .i64 s] w fun e w'=>e = .returned (.bool (isU s u))∧Below w.heap.size w w':=by
 have W0:=hide ((Below.refl w.heap.size w).alloc (Nat.le_refl _) (.cells (uroC u) 200))
 have HB:=hide (Blk.new w 200 (uroC u))
 have HU:=hide hu
 obtain ⟨r,hr⟩:∃ r,zbN u=r:=⟨_,rfl⟩
 have HR:=hide hr
 unfold isU
 rw [hr]
 clear hr hu
 go_enter Tryz.func166,Tryz.ntmps166
 go_wp2_with (with_reducible refine zbD rfl (.tmp 2) rfl w.heap.size rfl HB.out HU.out ?_)
 refine (zfO _ u HU.out).mono ?_
 rw [HR.out]
 rintro e w1 ⟨rfl,hb1⟩
 have W1:=hide (zaa W0.out hb1 (Nat.le_refl _))
 have k8:w1.cell? ⟨w.heap.size,8,none⟩=some (.int .i64 u.s):=((HB.out.over hb1).cell 8).trans (uroC_s HU.out)
 clear hb1
 cases r
 ·go_wp2
  go_ret
  exact ⟨rfl,W1.out⟩
 ·go_wp2
  go_ret
  exact ⟨by rw [Bool.true_and];rfl,W1.out⟩
theorem zpn (w:World) (m:Mr) (s:Int) (hm:m.W) (hkey:m.key.length≤140737488351232) (hN:zaK w) (g:Nat) (c0:w.cell? ⟨g,0,none⟩=some (.int .i64 s)) :
  Calls Tryz.prog 162 #[.agg (mroC m),.pointer (some ⟨g,0,none⟩)] w fun e w'=>e = .returned (.bool (!isM s m))∧Below w.heap.size w w':=by
 have W0:=hide ((Below.refl w.heap.size w).alloc (Nat.le_refl _) (.cells (mroC m) 119))
 have HB:=hide (Blk.new w 119 (mroC m))
 have HM:=hide hm
 have k0:(w.alloc (.cells (mroC m) 119)).cell? ⟨g,0,none⟩=some (.int .i64 s):=(World.cell?_alloc_lt w _ _ (World.block_lt_of_cell? _ _ c0)).trans c0
 have HN:=hide (hN.below W0.out)
 have HKY:=hide hkey
 obtain ⟨r,hr⟩:∃ r,isM s m=r:=⟨_,rfl⟩
 have HR:=hide hr
 rw [hr]
 clear hr hm c0
 go_enter Tryz.func162,Tryz.ntmps162
 go_wp2_with (with_reducible refine zat rfl (.tmp 2) rfl w.heap.size rfl HB.out HM.out ?_)
 refine (zpL _ m s HM.out HKY.out HN.out).mono ?_
 rw [HR.out]
 rintro e w1 ⟨rfl,hb1⟩
 go_wp2
 go_ret
 exact ⟨rfl,zaa W0.out hb1 (Nat.le_refl _)⟩
theorem zlU (w:World) (lo hi:Nat) (A:Option Addr) (n c:Nat) (l:List Mr) (h:AtG mroL w lo hi A n l) (hw:∀ m∈l,m.W) (hh:hi≤w.heap.size) (hn:n≤3000000000000) (hkey:∀ m∈l,m.key.length≤140737488351232) (hN:zaK w) (s:Int) (g:Nat) (c0:w.cell? ⟨g,0,none⟩=some (.int .i64 s)) :
  Calls Tryz.prog 189 #[.slice A n c,.func (.func 162) #[] #[.pointer (some ⟨g,0,none⟩)]] w fun e w'=>∃ r:Int,e = .returned (.int .i64 r)∧decide (0≤r)=(!l.all (isM s))∧Below w.heap.size w w':=by
 have H:=hide h
 have HL:=hide h.len
 have HC:=hide c0
 have HW:=hide hw
 have HGS:=hide (World.block_lt_of_cell? _ _ c0)
 have HKY:=hide hkey
 have HNM:=hide hN
 clear hkey hN
 clear h c0 hw
 go_enter Tryz.func189,Tryz.ntmps189
 go_wp2_with fail
 go_loopw [8] (fun i wr=>∃ k:Nat,k≤n∧i = .int .i64 k∧(∀ x∈l.take k,isM s x=true)∧Below w.heap.size w wr) (fun i _=>n-(intOf i).toNat)
 case atStart=>exact ⟨0,Nat.zero_le _,rfl,(fun x hx=>by simp at hx),Below.refl _ _⟩
 case round =>
  obtain ⟨k,hk,rfl,hall,hbel⟩:=hrel
  have HA:=hide hall
  have WB:=hide hbel
  clear hall hbel
  by_cases hlt:k<n
  ·have YR:=hide (H.out.below (WB.out.mono hh))
   obtain ⟨b,o,x,rfl,_,_,hx,hat⟩:=YR.out.at_ (sz:=62) (fun y hy=>zdC (HW.out y hy)) hlt
   have hmem:=List.mem_of_getElem? hx
   have HM:=hide (HW.out x hmem)
   have XK:=hide (HKY.out x hmem)
   have N1:=hide (HNM.out.below WB.out)
   have HX:=hide hx
   have HAT:=hide hat
   have HG:=hide ((WB.out.cell (p:=⟨g,0,none⟩) HGS.out).trans HC.out)
   obtain ⟨r,hr⟩:∃ r,isM s x=r:=⟨_,rfl⟩
   have HR:=hide hr
   have hkl:((k:Nat):Int)<(n:Int):=by omega
   clear hx hat hmem hr YR
   go_wp2_with (with_reducible refine zda rfl (.tmp 14) rfl b (o+k*62) rfl HAT.out HM.out ?_)
   refine (zpn wr x s HM.out XK.out N1.out g HG.out).mono ?_
   rw [HR.out]
   rintro e w1 ⟨rfl,hb1⟩
   have WB1:=hide (zaa WB.out hb1 (Nat.le_refl _))
   clear hb1
   cases r
   ·have HF:Hid (l.all (isM s)=false):=hide (List.all_eq_false.2 ⟨x,List.mem_of_getElem? HX.out,by rw [HR.out];decide⟩)
    go_wp2_with fail
    go_ret
    exact ⟨_,rfl,by rw [HF.out];exact decide_eq_true (by omega),WB1.out⟩
   ·have HNX:Hid (∀ y∈l.take (k+1),isM s y=true):=hide (by
     intro y hy
     rw [List.take_add_one,HX.out] at hy
     rcases List.mem_append.1 hy with hy | hy
     ·exact HA.out y hy
     ·rw [show y=x by simpa using hy];exact HR.out)
    go_wp2_with fail
    go_roundw
    case rel=>exact ⟨k+1,by omega,by go_num,HNX.out,WB1.out⟩
    case measure=>simp [intOf];omega
  ·obtain rfl:k=n:=by omega
   have HF:Hid (l.all (isM s)=true):=hide (by
    rw [List.all_eq_true]
    intro x hx
    exact HA.out x (by rw [List.take_of_length_le (by rw [HL.out];exact Nat.le_refl _)];exact hx))
   go_wp2
   go_ret
   exact ⟨_,rfl,by rw [HF.out];rfl,WB.out⟩
theorem zh0 (w:World) (lo hi:Nat) (A:Option Addr) (n c:Nat) (l:List Mr) (h:AtG mroL w lo hi A n l) (hw:∀ m∈l,m.W) (hh:hi≤w.heap.size) (hn:n≤3000000000000) (hkey:∀ m∈l,m.key.length≤140737488351232) (hN:zaK w) (s:Int) (g:Nat) (c0:w.cell? ⟨g,0,none⟩=some (.int .i64 s)) :
  Calls Tryz.prog 164 #[.slice A n c,.func (.func 162) #[] #[.pointer (some ⟨g,0,none⟩)]] w fun e w'=>e = .returned (.bool (!l.all (isM s)))∧Below w.heap.size w w':=by
 have HC:=hide (zlU w lo hi A n c l h hw hh hn hkey hN s g c0)
 obtain ⟨q,hq⟩:∃ q,l.all (isM s)=q:=⟨_,rfl⟩
 have HQ:=hide hq
 rw [hq]
 clear h hw hq c0
 go_enter Tryz.func164,Tryz.ntmps164
 go_wp2_with fail
 refine HC.out.mono ?_
 rintro e w1 ⟨r,rfl,hr,hb1⟩
 rw [HQ.out] at hr
 cases q
 ·have h0:(0:Int)≤r:=of_decide_eq_true hr
  clear hr
  go_wp2
  go_ret
  exact ⟨rfl,hb1⟩
 ·have h0:¬ (0:Int)≤r:=of_decide_eq_false hr
  clear hr
  go_wp2
  go_ret
  exact ⟨by show Ending.returned (.bool (decide (0≤r)))=_;rw [decide_eq_false (by omega)];rfl,hb1⟩
theorem zpm (w:World) (m:Ur) (s:Int) (hm:m.W) (g:Nat) (c0:w.cell? ⟨g,0,none⟩=some (.int .i64 s)) :
  Calls Tryz.prog 165 #[.agg (uroC m),.pointer (some ⟨g,0,none⟩)] w fun e w'=>e = .returned (.bool (!isU s m))∧Below w.heap.size w w':=by
 have W0:=hide ((Below.refl w.heap.size w).alloc (Nat.le_refl _) (.cells (uroC m) 200))
 have HB:=hide (Blk.new w 200 (uroC m))
 have HM:=hide hm
 have k0:(w.alloc (.cells (uroC m) 200)).cell? ⟨g,0,none⟩=some (.int .i64 s):=(World.cell?_alloc_lt w _ _ (World.block_lt_of_cell? _ _ c0)).trans c0
 obtain ⟨r,hr⟩:∃ r,isU s m=r:=⟨_,rfl⟩
 have HR:=hide hr
 rw [hr]
 clear hr hm c0
 go_enter Tryz.func165,Tryz.ntmps165
 go_wp2_with (with_reducible refine zbD rfl (.tmp 2) rfl w.heap.size rfl HB.out HM.out ?_)
 refine (zpK _ m s HM.out).mono ?_
 rw [HR.out]
 rintro e w1 ⟨rfl,hb1⟩
 go_wp2
 go_ret
 exact ⟨rfl,zaa W0.out hb1 (Nat.le_refl _)⟩
theorem zlT (w:World) (lo hi:Nat) (A:Option Addr) (n c:Nat) (l:List Ur) (h:AtG uroL w lo hi A n l) (hw:∀ m∈l,m.W) (hh:hi≤w.heap.size) (hn:n≤3000000000000) (s:Int) (g:Nat) (c0:w.cell? ⟨g,0,none⟩=some (.int .i64 s)) :
  Calls Tryz.prog 191 #[.slice A n c,.func (.func 165) #[] #[.pointer (some ⟨g,0,none⟩)]] w fun e w'=>∃ r:Int,e = .returned (.int .i64 r)∧decide (0≤r)=(!l.all (isU s))∧Below w.heap.size w w':=by
 have H:=hide h
 have HL:=hide h.len
 have HC:=hide c0
 have HW:=hide hw
 have HGS:=hide (World.block_lt_of_cell? _ _ c0)
 clear h c0 hw
 go_enter Tryz.func191,Tryz.ntmps191
 go_wp2_with fail
 go_loopw [8] (fun i wr=>∃ k:Nat,k≤n∧i = .int .i64 k∧(∀ x∈l.take k,isU s x=true)∧Below w.heap.size w wr) (fun i _=>n-(intOf i).toNat)
 case atStart=>exact ⟨0,Nat.zero_le _,rfl,(fun x hx=>by simp at hx),Below.refl _ _⟩
 case round =>
  obtain ⟨k,hk,rfl,hall,hbel⟩:=hrel
  have HA:=hide hall
  have WB:=hide hbel
  clear hall hbel
  by_cases hlt:k<n
  ·have YR:=hide (H.out.below (WB.out.mono hh))
   obtain ⟨b,o,x,rfl,_,_,hx,hat⟩:=YR.out.at_ (sz:=27) (fun y hy=>zel (HW.out y hy)) hlt
   have hmem:=List.mem_of_getElem? hx
   have HM:=hide (HW.out x hmem)
   have HX:=hide hx
   have HAT:=hide hat
   have HG:=hide ((WB.out.cell (p:=⟨g,0,none⟩) HGS.out).trans HC.out)
   obtain ⟨r,hr⟩:∃ r,isU s x=r:=⟨_,rfl⟩
   have HR:=hide hr
   have hkl:((k:Nat):Int)<(n:Int):=by omega
   clear hx hat hmem hr YR
   go_wp2_with (with_reducible refine zc8 rfl (.tmp 14) rfl b (o+k*27) rfl HAT.out HM.out ?_)
   refine (zpm wr x s HM.out g HG.out).mono ?_
   rw [HR.out]
   rintro e w1 ⟨rfl,hb1⟩
   have WB1:=hide (zaa WB.out hb1 (Nat.le_refl _))
   clear hb1
   cases r
   ·have HF:Hid (l.all (isU s)=false):=hide (List.all_eq_false.2 ⟨x,List.mem_of_getElem? HX.out,by rw [HR.out];decide⟩)
    go_wp2_with fail
    go_ret
    exact ⟨_,rfl,by rw [HF.out];exact decide_eq_true (by omega),WB1.out⟩
   ·have HNX:Hid (∀ y∈l.take (k+1),isU s y=true):=hide (by
     intro y hy
     rw [List.take_add_one,HX.out] at hy
     rcases List.mem_append.1 hy with hy | hy
     ·exact HA.out y hy
     ·rw [show y=x by simpa using hy];exact HR.out)
    go_wp2_with fail
    go_roundw
    case rel=>exact ⟨k+1,by omega,by go_num,HNX.out,WB1.out⟩
    case measure=>simp [intOf];omega
  ·obtain rfl:k=n:=by omega
   have HF:Hid (l.all (isU s)=true):=hide (by
    rw [List.all_eq_true]
    intro x hx
    exact HA.out x (by rw [List.take_of_length_le (by rw [HL.out];exact Nat.le_refl _)];exact hx))
   go_wp2
   go_ret
   exact ⟨_,rfl,by rw [HF.out];rfl,WB.out⟩
theorem zhZ (w:World) (lo hi:Nat) (A:Option Addr) (n c:Nat) (l:List Ur) (h:AtG uroL w lo hi A n l) (hw:∀ m∈l,m.W) (hh:hi≤w.heap.size) (hn:n≤3000000000000) (s:Int) (g:Nat) (c0:w.cell? ⟨g,0,none⟩=some (.int .i64 s)) :
  Calls Tryz.prog 167 #[.slice A n c,.func (.func 165) #[] #[.pointer (some ⟨g,0,none⟩)]] w fun e w'=>e = .returned (.bool (!l.all (isU s)))∧Below w.heap.size w w':=by
 have HC:=hide (zlT w lo hi A n c l h hw hh hn s g c0)
 obtain ⟨q,hq⟩:∃ q,l.all (isU s)=q:=⟨_,rfl⟩
 have HQ:=hide hq
 rw [hq]
 clear h hw hq c0
 go_enter Tryz.func167,Tryz.ntmps167
 go_wp2_with fail
 refine HC.out.mono ?_
 rintro e w1 ⟨r,rfl,hr,hb1⟩
 rw [HQ.out] at hr
 cases q
 ·have h0:(0:Int)≤r:=of_decide_eq_true hr
  clear hr
  go_wp2
  go_ret
  exact ⟨rfl,hb1⟩
 ·have h0:¬ (0:Int)≤r:=of_decide_eq_false hr
  clear hr
  go_wp2
  go_ret
  exact ⟨by show Ending.returned (.bool (decide (0≤r)))=_;rw [decide_eq_false (by omega)];rfl,hb1⟩
theorem zlk (w:World) (lo hi:Nat) (x:TbP) (h:mTb w lo hi x) (hw:wTb x) (hh:hi≤w.heap.size) (hfit:FitT x) (hN:zaK w) :
  Calls Tryz.prog 139 #[.agg (tbC x)] w fun e w'=>e = .returned (.bool (zcW x.tb))∧Below w.heap.size w w':=by
 have S0:=hide (TbS.start h hw hh)
 have N0:=hide (hN.below S0.out.bl)
 have c0:=hide S0.out.c0
 have c1:=S0.out.c1
 have c19:=S0.out.c19
 have c20:=S0.out.c20
 have HFT:=hide hfit
 have HLM:=hide h.1.len
 have HLU:=hide h.2.1.len
 have HH:=hide (show hi≤(w.alloc (.cells (tbC x) 115)).heap.size from Nat.le_trans hh S0.out.bl.size)
 have h1:x.mn≤3000000000000:=by have:=hfit.m;omega
 have h2:x.un≤3000000000000:=by have:=hfit.u;omega
 clear h hw hfit hN
 by_cases hf:x.f=5
 ·have HFU:Hid (zcW x.tb=(decide (x.us.length=0)&&x.ms.all (isM x.s))):=hide (by unfold zcW;rw [if_pos (show x.tb.f=5 from hf)];rfl)
  rw [HFU.out,HLU.out]
  by_cases hu:x.un=0
  ·have hu2:((x.un:Nat):Int)=0:=by omega
   rw [decide_eq_true hu,Bool.true_and]
   obtain ⟨r,hr⟩:∃ r,x.ms.all (isM x.s)=r:=⟨_,rfl⟩
   have HR:=hide hr
   rw [hr]
   clear hr hu
   go_enter Tryz.func139,Tryz.ntmps139
   go_wp2_with fail
   refine (zh0 _ lo hi x.mA x.mn x.mc x.ms S0.out.m.1 S0.out.sz.ms HH.out h1 HFT.out.k N0.out x.s w.heap.size c0.out).mono ?_
   rw [HR.out]
   rintro e w1 ⟨rfl,hb1⟩
   have S1:=hide (S0.out.on hb1)
   clear hb1
   go_wp2
   go_ret
   exact ⟨by cases r <;> rfl,S1.out.bl⟩
  ·have hu2:¬ ((x.un:Nat):Int)=0:=by omega
   rw [decide_eq_false hu,Bool.false_and]
   clear hu
   go_enter Tryz.func139,Tryz.ntmps139
   go_wp2
   go_ret
   exact ⟨rfl,S0.out.bl⟩
 ·have HFU:Hid (zcW x.tb=(decide (x.ms.length=0)&&x.us.all (isU x.s))):=hide (by unfold zcW;rw [if_neg (show ¬ x.tb.f=5 from hf)];rfl)
  rw [HFU.out,HLM.out]
  by_cases hu:x.mn=0
  ·have hu2:((x.mn:Nat):Int)=0:=by omega
   rw [decide_eq_true hu,Bool.true_and]
   obtain ⟨r,hr⟩:∃ r,x.us.all (isU x.s)=r:=⟨_,rfl⟩
   have HR:=hide hr
   rw [hr]
   clear hr hu
   go_enter Tryz.func139,Tryz.ntmps139
   go_wp2_with fail
   refine (zhZ _ lo hi x.uA x.un x.uc x.us S0.out.m.2.1 S0.out.sz.us HH.out h2 x.s w.heap.size c0.out).mono ?_
   rw [HR.out]
   rintro e w1 ⟨rfl,hb1⟩
   have S1:=hide (S0.out.on hb1)
   clear hb1
   go_wp2
   go_ret
   exact ⟨by cases r <;> rfl,S1.out.bl⟩
  ·have hu2:¬ ((x.mn:Nat):Int)=0:=by omega
   rw [decide_eq_false hu,Bool.false_and]
   clear hu
   go_enter Tryz.func139,Tryz.ntmps139
   go_wp2
   go_ret
   exact ⟨rfl,S0.out.bl⟩
theorem zm3 (w:World) (x:TbP) (hw:wTb x) :
  Calls Tryz.prog 138 #[.agg (tbC x)] w fun e w'=>e = .returned (.bool (zeG x.s x.f))∧Below w.heap.size w w':=by
 have HB:=hide (Blk.new w 115 (tbC x))
 have c0:(w.alloc (.cells (tbC x) 115)).cell? ⟨w.heap.size,0,none⟩=some (.int .i64 x.s):=(HB.out.cell 0).trans (by unfold tbC;simpa using zq5 x)
 have c1:(w.alloc (.cells (tbC x) 115)).cell? ⟨w.heap.size,1,none⟩=some (.int .i64 x.f):=(HB.out.cell 1).trans (by unfold tbC;simpa using zq4 x)
 have W0:=hide ((Below.refl w.heap.size w).alloc (Nat.le_refl _) (.cells (tbC x) 115))
 clear hw HB
 go_enter Tryz.func138,Tryz.ntmps138
 go_wp2_with fail
 refine (zev _ (x.s,x.f)).mono ?_
 rintro e w1 ⟨rfl,hb1⟩
 have W1:=hide (zaa W0.out hb1 (Nat.le_refl _))
 clear hb1
 go_wp2
 go_ret
 exact ⟨rfl,W1.out⟩
theorem zq0 (w:World) (lo hi:Nat) (x:TbP) (h:mTb w lo hi x) (hw:wTb x) (hh:hi≤w.heap.size) (hfit:FitT x) :
  Calls Tryz.prog 105 #[.agg (tbC x)] w fun e w'=>e = .returned (.bool (hasT x.tb))∧Below w.heap.size w w':=by
 have S0:=hide (TbS.start h hw hh)
 have c19:=S0.out.c19
 have c20:=S0.out.c20
 have h1:=hfit.m
 have h2:=hfit.u
 have HE:Hid (hasT x.tb=decide ((0:Int)<(x.mn:Int)+(x.un:Int))):=hide (by
  have e1:=h.1.len
  have e2:=h.2.1.len
  unfold hasT
  show decide (0<x.ms.length+x.us.length)=_
  rw [e1,e2]
  exact decide_eq_decide.2 (by omega))
 rw [HE.out]
 clear h hw hfit
 go_enter Tryz.func105,Tryz.ntmps105
 go_wp2
 go_ret
 exact ⟨rfl,S0.out.bl⟩
theorem zif (w:World) (lo hi:Nat) (x:TbP) (b:Bool) (h:mTb w lo hi x) (hw:wTb x) (hh:hi≤w.heap.size) (hfit:FitT x) (hN:zaK w) :
  Calls Tryz.prog 104 #[.agg (tbC x),.bool b] w fun e w'=>e = .returned (.bool (zbm b x.tb))∧Below w.heap.size w w':=by
 have S0:=hide (TbS.start h hw hh)
 have N0:=hide (hN.below S0.out.bl)
 have HFT:=hide hfit
 have HOB:=hide (zcG hw)
 have HH:=hide (show hi≤(w.alloc (.cells (tbC x) 115)).heap.size from Nat.le_trans hh S0.out.bl.size)
 have RG:=hide S0.out.rng
 have RX:Hid (zbm b x.tb=(zeG x.s x.f&&(zcW x.tb&&(zau x.ns x.nb&&(b==decide (0<x.ns)))))):=hide rfl
 rw [RX.out]
 obtain ⟨q1,h1⟩:∃ r,zeG x.s x.f=r:=⟨_,rfl⟩
 obtain ⟨q2,h2⟩:∃ r,zcW x.tb=r:=⟨_,rfl⟩
 obtain ⟨q3,h3⟩:∃ r,zau x.ns x.nb=r:=⟨_,rfl⟩
 have H1:=hide h1
 have H2:=hide h2
 have H3:=hide h3
 rw [h1,h2,h3]
 clear h hw hfit hN h1 h2 h3 RX
 go_enter Tryz.func104,Tryz.ntmps104
 go_wp2_with ((with_reducible refine zay ?_ (.tmp 2) rfl w.heap.size 0 rfl x RG.out HOB.out ?_);· rfl)
 refine (zm3 _ x S0.out.sz).mono ?_
 rw [H1.out]
 rintro e w1 ⟨rfl,hb1⟩
 have S1:=hide (S0.out.on hb1)
 have N1:=hide (N0.out.below hb1)
 have RG1:=hide S1.out.rng
 have HH1:=hide (Nat.le_trans HH.out hb1.size)
 clear hb1 S0 N0 RG HH
 cases q1
 ·go_wp2
  go_ret
  exact ⟨rfl,S1.out.bl⟩
 ·go_wp2_with ((with_reducible refine zay ?_ (.tmp 2) rfl w.heap.size 0 rfl x RG1.out HOB.out ?_);· rfl)
  refine (zlk w1 lo hi x S1.out.m S1.out.sz HH1.out HFT.out N1.out).mono ?_
  rw [H2.out]
  rintro e w2 ⟨rfl,hb2⟩
  have S2:=hide (S1.out.on hb2)
  have RG2:=hide S2.out.rng
  clear hb2 S1 N1 RG1 HH1
  cases q2
  ·go_wp2
   go_ret
   exact ⟨rfl,S2.out.bl⟩
  ·go_wp2_with (refine zab ?_ (zbZ (.tmp 12) rfl w.heap.size 0 rfl RG2.out HOB.out) ?_;· rfl)
   refine (zbM w2 x.ns x.nb HOB.out).mono ?_
   rw [H3.out]
   rintro e w3 ⟨rfl,hb3⟩
   have S3:=hide (S2.out.on hb3)
   have c2:=S3.out.c2
   clear hb3 S2 RG2
   cases q3
   ·go_wp2
    go_ret
    exact ⟨rfl,S3.out.bl⟩
   ·cases b
    ·go_wp2
     go_ret
     exact ⟨by first | rfl | (cases decide (0<x.ns) <;> rfl),S3.out.bl⟩
    ·go_wp2
     go_ret
     exact ⟨by first | rfl | (cases decide (0<x.ns) <;> rfl),S3.out.bl⟩
theorem zll (w:World) (lo hi:Nat) (x:TbP) (h:mTb w lo hi x) (hw:wTb x) (hh:hi≤w.heap.size) (hfit:FitT x) (hN:zaK w) :
  Calls Tryz.prog 64 #[.agg (tbC x)] w fun e w'=>e = .returned (.bool (zcF x.tb))∧Below w.heap.size w w':=by
 have S0:=hide (TbS.start h hw hh)
 have N0:=hide (hN.below S0.out.bl)
 have HFT:=hide hfit
 have HOB:=hide (zcG hw)
 have HH:=hide (show hi≤(w.alloc (.cells (tbC x) 115)).heap.size from Nat.le_trans hh S0.out.bl.size)
 have RG:=hide S0.out.rng
 unfold zcF
 obtain ⟨q1,h1⟩:∃ r,zbm true x.tb=r:=⟨_,rfl⟩
 obtain ⟨q2,h2⟩:∃ r,hasT x.tb=r:=⟨_,rfl⟩
 have H1:=hide h1
 have H2:=hide h2
 rw [h1,h2]
 clear h hw hfit hN h1 h2
 go_enter Tryz.func64,Tryz.ntmps64
 go_wp2_with ((with_reducible refine zay ?_ (.tmp 1) rfl w.heap.size 0 rfl x RG.out HOB.out ?_);· rfl)
 refine (zif _ lo hi x true S0.out.m S0.out.sz HH.out HFT.out N0.out).mono ?_
 rw [H1.out]
 rintro e w1 ⟨rfl,hb1⟩
 have S1:=hide (S0.out.on hb1)
 have RG1:=hide S1.out.rng
 have HH1:=hide (Nat.le_trans HH.out hb1.size)
 clear hb1 S0 N0 RG HH
 cases q1
 ·go_wp2
  go_ret
  exact ⟨rfl,S1.out.bl⟩
 ·go_wp2_with ((with_reducible refine zay ?_ (.tmp 1) rfl w.heap.size 0 rfl x RG1.out HOB.out ?_);· rfl)
  refine (zq0 w1 lo hi x S1.out.m S1.out.sz HH1.out HFT.out).mono ?_
  rw [H2.out]
  rintro e w2 ⟨rfl,hb2⟩
  have S2:=hide (S1.out.on hb2)
  clear hb2
  go_wp2
  go_ret
  exact ⟨by cases q2 <;> rfl,S2.out.bl⟩
theorem zlj (w:World) (lo hi:Nat) (x:TbP) (h:mTb w lo hi x) (hw:wTb x) (hh:hi≤w.heap.size) (hfit:FitT x) (hN:zaK w) :
  Calls Tryz.prog 65 #[.agg (tbC x)] w fun e w'=>e = .returned (.bool (zbm false x.tb))∧Below w.heap.size w w':=by
 have S0:=hide (TbS.start h hw hh)
 have N0:=hide (hN.below S0.out.bl)
 have HFT:=hide hfit
 have HOB:=hide (zcG hw)
 have HH:=hide (show hi≤(w.alloc (.cells (tbC x) 115)).heap.size from Nat.le_trans hh S0.out.bl.size)
 have RG:=hide S0.out.rng
 obtain ⟨q1,h1⟩:∃ r,zbm false x.tb=r:=⟨_,rfl⟩
 have H1:=hide h1
 rw [h1]
 clear h hw hfit hN h1
 go_enter Tryz.func65,Tryz.ntmps65
 go_wp2_with ((with_reducible refine zay ?_ (.tmp 1) rfl w.heap.size 0 rfl x RG.out HOB.out ?_);· rfl)
 refine (zif _ lo hi x false S0.out.m S0.out.sz HH.out HFT.out N0.out).mono ?_
 rw [H1.out]
 rintro e w1 ⟨rfl,hb1⟩
 have S1:=hide (S0.out.on hb1)
 clear hb1 S0 N0 RG HH
 go_wp2
 go_ret
 exact ⟨rfl,S1.out.bl⟩
end
section
set_option maxRecDepth 20000
open Go.RowKit
theorem zqG (w:World) (a:Nat) (t:TypeId):At (w.alloc (.cells (madeCells #[.int .u8 0] a) t)) w.heap.size (w.heap.size+1) (some ⟨w.heap.size,0,none⟩) a (List.replicate a 0) :=
 ⟨by simp,fun _=>⟨_,0,rfl,Nat.le_refl _,by omega,fun j u hu=>by
  have hb:=(Blk.new w t (madeCells #[.int .u8 0] a)).cell j
  rw [Nat.zero_add,hb,← Array.getElem?_toList,toList_madeCells_one]
  obtain ⟨hj,rfl⟩:=List.getElem?_eq_some_iff.1 hu
  rw [List.length_replicate] at hj
  rw [List.getElem?_replicate,if_pos hj]
  simp [bv]⟩⟩
theorem zsl (w:World) (V1 V2 V3:Int) (t:TypeId) (a b c:UInt8) (h1:V1=(a.toNat:Int)) (h2:V2=(b.toNat:Int)) (h3:V3=(c.toNat:Int)) :
  At (w.alloc (.cells #[.int .u8 V1,.int .u8 V2,.int .u8 V3] t)) w.heap.size (w.heap.size+1) (some ⟨w.heap.size,0,none⟩) 3 [a,b,c]:=by
 subst h1 h2 h3
 refine ⟨rfl,fun _=>⟨_,0,rfl,Nat.le_refl _,by omega,fun j u hu=>?_⟩⟩
 have hb:=(Blk.new w t #[.int .u8 (a.toNat:Int),.int .u8 (b.toNat:Int),.int .u8 (c.toNat:Int)]).cell j
 rw [Nat.zero_add,hb]
 match j,hu with
 | 0,hu=>simp at hu;subst hu;rfl
 | 1,hu=>simp at hu;subst hu;rfl
 | 2,hu=>simp at hu;subst hu;rfl
theorem zm6 (w:World) (f:Int):Calls Tryz.prog 177 #[.int .i64 f] w fun e w'=>e = .returned (.int .i64 ((ahT f).length:Nat))∧w=w':=by
 unfold ahT
 by_cases hf:f=128
 ·rw [if_pos hf]
  go_enter Tryz.func177,Tryz.ntmps177
  go_wp2
  go_ret
  exact ⟨rfl,rfl⟩
 ·rw [if_neg hf]
  go_enter Tryz.func177,Tryz.ntmps177
  go_wp2
  go_ret
  exact ⟨rfl,rfl⟩
theorem zk9 (w:World) (s:Int) (h:s=4∨s=16):Calls Tryz.prog 68 #[.int .i64 s] w fun e w'=>e = .returned (.int .u8 ((numT s).toNat:Nat))∧w=w':=by
 have:=ze8 w s
 rcases h with rfl | rfl <;> exact this
set_option maxHeartbeats 1000000 in
theorem zpr (w:World) (lo hi:Nat) (x:TbP) (h:mTb w lo hi x) (hw:wTb x) (hh:hi≤w.heap.size) (a s:Nat) (ha:(ahT x.f).length=a) (ha8:a≤8) (hs:x.ns=(s:Int)) (hs16:s≤16) (hr:zau x.ns x.nb=true) :
  Calls Tryz.prog 143 #[.agg (tbC x)] w fun e w'=>∃ v,e = .returned v∧w'.ownsRow w.heap.size 5 1 v (zhP x.tb).length (bvs (zhP x.tb))∧Below w.heap.size w w':=by
 obtain ⟨i0,hi0,hz0,hz1,hz2⟩:=info_parts za4
 have S0:=hide (TbS.start h hw hh)
 have c1:=S0.out.c1
 have HA:=hide ha
 have HS:=hide hs
 have HRA:=hide hr
 have HOB:=hide (zcG hw)
 have HL:=hide (zbW hw.nb hr)
 have HAT:Hid (ahT x.f=List.replicate a 0):=hide (by
  rw [← ha];unfold ahT;split <;> rfl)
 clear h hw ha hs hr
 go_enter Tryz.func143,Tryz.ntmps143
 go_wp2_with fail
 refine (zm6 _ x.f).mono ?_
 rw [HA.out]
 rintro e w1 ⟨rfl,rfl⟩
 go_wp2_with (refine zbG rfl (.tmp 7) (.tmp 7) 22 rfl 5 i0 Tryz.underlying22 hi0 hz0 hz1 hz2 a a _ rfl rfl rfl (Nat.le_refl _) (by omega) ?_;refine Hid.out ?_)
 refine hide ?_
 have S2:=hide (S0.out.new (.cells (madeCells #[.int .u8 0] a) 5))
 have M2:=hide (zqG (w.alloc (.cells (tbC x) 115)) a 5)
 have k2:=S2.out.c2
 rw [HS.out] at k2
 have e1:(w.alloc (.cells (tbC x) 115)).heap.size=w.heap.size+1:=by simp
 rw [e1] at M2
 generalize (w.alloc (.cells (tbC x) 115)).alloc (.cells (madeCells #[.int .u8 0] a) 5)=w2 at *
 have M2z:Hid (w.heap.size+1<w2.heap.size∨a=0):=hide (by
  rcases Nat.eq_zero_or_pos a with h0 | h0
  ·exact .inr h0
  ·obtain ⟨b,o,e,_,_,hc⟩:=M2.out.2 h0
   injection e with e;injection e with e _
   have h1:=World.block_lt_of_cell? _ _ (hc 0 _ (by rw [List.getElem?_replicate,if_pos h0]))
   exact .inl (by rw [e];exact h1))
 have S3:=hide (S2.out.new (.cells #[.int .u8 ((a:Int)+(s:Int))] 5))
 have M3:=hide ((M2.out.lt.alloc (Nat.le_refl _) (.cells #[.int .u8 ((a:Int)+(s:Int))] 5)))
 have O3:=hide (zgs w2 ((a:Int)+(s:Int)) 5 (UInt8.ofNat (a+s)) (by simp;omega))
 have hz3:(w2.alloc (.cells #[.int .u8 ((a:Int)+(s:Int))] 5)).heap.size=w2.heap.size+1:=by simp
 have RG3:=hide S3.out.rng
 clear S0 c1 e1 S2
 go_wp2_with ((with_reducible refine zab ?_ (zbZ (.tmp 19) rfl w.heap.size 0 rfl RG3.out HOB.out) ?_);· rfl)
 refine (zb9 _ x.ns x.nb HOB.out).mono ?_
 rintro e w4 ⟨v4,rfl,ho4,hb4⟩
 obtain ⟨A4,c4,rfl,_,_⟩:=zac ho4
 have S4:=hide (S3.out.on hb4)
 have P1:=hide ((O3.out.below (hb4.mono (by omega))).more (lo':=0) (hi':=w4.heap.size) (Nat.zero_le _) (by have:=hb4.size;omega))
 have P2:=hide ((M3.out.below (hb4.mono (by omega))).more (lo':=0) (hi':=w4.heap.size) (Nat.zero_le _) (by have:=hb4.size;omega))
 have P3:=hide ((At.own ho4).more (lo':=0) (hi':=w4.heap.size) (Nat.zero_le _) (Nat.le_refl _))
 have Z4:=hide (zgs w4 0 5 0 rfl)
 have B5:Hid (Below w4.heap.size w4 (w4.alloc (.cells #[.int .u8 0] 5))):=hide ((Below.refl _ _).alloc (Nat.le_refl _) _)
 have hz5:(w4.alloc (.cells #[.int .u8 0] 5)).heap.size=w4.heap.size+1:=by simp
 have R5:=hide (znf (c1:=1) (c2:=a) (c3:=c4) (c4:=1) ((P1.out.below B5.out).more (hi':=w4.heap.size+1) (Nat.le_refl _) (by omega)) ((P2.out.below B5.out).more (hi':=w4.heap.size+1) (Nat.le_refl _) (by omega)) ((P3.out.below B5.out).more (hi':=w4.heap.size+1) (Nat.le_refl _) (by omega)) (Z4.out.more (lo':=0) (hi':=w4.heap.size+1) (Nat.zero_le _) (Nat.le_refl _)))
 clear S3 M2 M3 O3 RG3 hz3 ho4 hb4 P1 P2 P3 Z4
 have NB:=Blk.new (w4.alloc (.cells #[.int .u8 0] 5)) 22 #[.slice (some ⟨w2.heap.size,0,none⟩) 1 1,.slice (some ⟨w.heap.size+1,0,none⟩) a a,.slice A4 (zap x.ns x.nb).length c4,.slice (some ⟨w4.heap.size,0,none⟩) 1 1]
 rw [hz5] at NB
 have HNB:=hide NB
 have HFL:Hid (([[UInt8.ofNat (a+s)],List.replicate a 0,zap x.ns x.nb,[0]]:List (List UInt8)).flatten=zhP x.tb):=hide (by
  have e2:x.tb.ns.toNat=s:=by show x.ns.toNat=s;rw [HS.out];rfl
  unfold zhP
  show _=UInt8.ofNat ((ahT x.f).length+x.tb.ns.toNat)::(ahT x.f++(zap x.ns x.nb++[0]))
  rw [HA.out,e2,HAT.out]
  simp)
 have HSUM:Hid (([[UInt8.ofNat (a+s)],List.replicate a 0,zap x.ns x.nb,[0]]:List (List UInt8)).flatten.length≤140737488351000):=hide (by
  have h1:=HL.out
  rw [HS.out] at h1
  have h2:(zap x.ns x.nb).length=s:=by rw [HS.out];exact h1
  simp [h2]
  omega)
 have B6:=hide (((S4.out.bl.alloc S4.out.bl.size (.cells #[.int .u8 0] 5)).alloc (by rw [hz5];have:=S4.out.bl.size;omega) (.cells #[.slice (some ⟨w2.heap.size,0,none⟩) 1 1,.slice (some ⟨w.heap.size+1,0,none⟩) a a,.slice A4 (zap x.ns x.nb).length c4,.slice (some ⟨w4.heap.size,0,none⟩) 1 1] 22)))
 clear NB S4
 go_wp2_with fail
 refine (zbE _ (w4.heap.size+1) 22 _ [[UInt8.ofNat (a+s)],List.replicate a 0,zap x.ns x.nb,[0]] 4 rfl (by decide) HNB.out (R5.out.below ((Below.refl _ _).alloc (by rw [hz5];exact Nat.le_refl _) _) |>.wide (by simp)) HSUM.out).mono ?_
 rw [HFL.out]
 rintro e w7 ⟨v7,rfl,ho7,hb7⟩
 go_wp2
 go_ret
 exact ⟨v7,rfl,zaC ho7 B6.out.size,zaa B6.out hb7 (Nat.le_refl _)⟩
structure TgS (w z:World) (lo hi:Nat) (x:TbP):Prop where
 s:TbS w z lo hi x
 n:zaK z
section
variable {w y z:World} {lo hi:Nat} {x:TbP}
theorem TgS.on (h:TgS w y lo hi x) (hb:Below y.heap.size y z):TgS w z lo hi x:=⟨h.s.on hb,h.n.below hb⟩
theorem TgS.drew (h:TgS w y lo hi x):TgS w y.drew lo hi x:=h.on (zak (Below.refl _ _))
theorem TgS.new (h:TgS w y lo hi x) (ob:Obj):TgS w (y.alloc ob) lo hi x:=h.on ((Below.refl _ _).alloc (Nat.le_refl _) ob)
theorem TgS.here (h:TgS w y lo hi x):hi≤y.heap.size:=Nat.le_trans h.s.hh h.s.bl.size
end
theorem zng {l:List Mr} {n:Nat} (hw:∀ m∈l,m.W) (hn:n≤1260000000000) (hl:l.length=n):(rowO l).length≤138600000000000:=by
 cases h:ziV l
 ·unfold rowO;rw [h];simp
 ·rw [(zmu h).1]
  have h1:=zfS hw (fun m hm=>by unfold ziV at h;rw [List.all_eq_true] at h;exact h m hm)
  omega
theorem zlh {l:List Ur} {n:Nat} (hw:∀ m∈l,m.W) (hn:n≤3000000000000) (hl:l.length=n):(zdT l).length≤84000000000000:=by
 cases h:zfl l
 ·unfold zdT;rw [h];simp
 ·rw [(zj2 h).1]
  have h1:=zfR hw (fun m hm=>by unfold zfl at h;rw [List.all_eq_true] at h;exact h m hm)
  omega
theorem zj5 {t:Tb} (h:zcW t=true):t.us=[]∨t.ms=[]:=by
 unfold zcW at h
 split at h
 ·simp only [Bool.and_eq_true,decide_eq_true_eq] at h
  exact .inl (List.eq_nil_of_length_eq_zero h.1)
 ·simp only [Bool.and_eq_true,decide_eq_true_eq] at h
  exact .inr (List.eq_nil_of_length_eq_zero h.1)
theorem znn {x:TbP} {r:Bool} (h:zbm r x.tb=true):∃ s a:Nat,x.ns=(s:Int)∧s≤16∧(ahT x.f).length=a∧a≤8∧zau x.ns x.nb=true:=by
 obtain ⟨_,_,_,h4,_⟩:=zeY h
 have hs:x.ns=0∨x.ns=4∨x.ns=16:=zbg h4
 exact ⟨x.ns.toNat,(ahT x.f).length,by omega,by omega,rfl,by unfold ahT;split <;> simp,h4⟩
theorem zlG {x:TbP} {a s:Nat} (hl:x.nb.length=16) (hr:zau x.ns x.nb=true) (ha8:a≤8) (ha:(ahT x.f).length=a) (hs:x.ns=(s:Int)) (hs16:s≤16):(zhP x.tb).length≤30:=by
 have h1:=zca x.ns hl
 unfold zhP
 show (UInt8.ofNat _::(ahT x.f++(zap x.ns x.nb++[0]))).length≤30
 simp only [List.length_cons,List.length_append,List.length_nil]
 omega
set_option maxHeartbeats 2000000 in
theorem zgZ (w:World) (lo hi:Nat) (x:TbP) (b:Bool) (h:mTb w lo hi x) (hw:wTb x) (hh:hi≤w.heap.size) (hfit:FitT x) (hN:zaK w) (hr:zbm b x.tb=true) :
  Calls Tryz.prog 116 #[.agg (tbC x),.bool b] w fun e w'=>∃ v,e = .returned v∧w'.ownsRow w.heap.size 5 1 v (valT b x.tb).length (bvs (valT b x.tb))∧Below w.heap.size w w':=by
 obtain ⟨r1,r2,_,r4,r5⟩:=zeY hr
 obtain ⟨F,hF⟩:∃ F:Nat,x.f=(F:Int):=⟨x.f.toNat,by have:x.f=5∨x.f=128:=r2;omega⟩
 have hF2:F=5∨F=128:=by have:x.f=5∨x.f=128:=r2;omega
 have Q0:Hid (TgS w (w.alloc (.cells (tbC x) 115)) lo hi x):=hide ⟨TbS.start h hw hh,hN.below ((Below.refl _ _).alloc (Nat.le_refl _) _)⟩
 have HF:=hide hF
 have HFT:=hide hfit
 have HOB:=hide (zcG hw)
 have HR:=hide hr
 have HS1:Hid (x.s=4∨x.s=16):=hide r1
 have hFI:(F:Int)<256:=by omega
 clear h hw hfit hN hr r1 r2 r4 r5 hF
 go_enter Tryz.func116,Tryz.ntmps116
 go_wp2_with fail
 refine wp_region_held_drew (S:=fun z=>TgS w z lo hi x) (by kernel_rfl) Q0.out.drew (fun hHeld=>?_)
 refine rgT 0 ?_
 refine rgK 1 (fun w' hSw=>hSw.s.c0) ?_
 refine rgT 3 ?_
 refine rgK 4 (fun w' hSw=>(hSw.s.c1.trans (by rw [HF.out]):w'.cell? ⟨w.heap.size,1,none⟩=some (.int .i64 (F:Int)))) ?_
 refine rgV 5 (.int .u8 (F:Int)) ?_ ?_
 ·(intro w' hSw;rcases hF2 with rfl | rfl <;> (go_simp <;> rfl))
 refine zag (i:=2) rfl (by kernel_rfl) (by rfl) (zk9 _ x.s HS1.out) (fun w=>by kernel_rfl) ?_
 rintro e w1 ⟨rfl,rfl⟩
 refine ⟨_,rfl,hHeld,fun hHeld=>?_⟩
 refine rgN ?_
 refine zaZ (i:=6) (v:=.slice (some ⟨(w.alloc (.cells (tbC x) 115)).drew.heap.size,0,none⟩) 3 3) (w':=(w.alloc (.cells (tbC x) 115)).drew.alloc (.cells #[.int .u8 0,.int .u8 ((numT x.s).toNat:Int),.int .u8 (F:Int)] 5)) rfl (by kernel_rfl) (by rfl) ?_ (hHeld.new _) (fun hHeld=>?_)
 ·(go_simp <;> with_reducible rfl)
 refine rgN ?_
 refine rgT 7 ?_
 refine wpAnyH_done (by kernel_rfl) ?_ _
 have TH:=hide (zsl (w.alloc (.cells (tbC x) 115)).drew 0 ((numT x.s).toNat:Int) (F:Int) 5 0 (numT x.s) (UInt8.ofNat F) rfl rfl (by rcases hF2 with rfl | rfl <;> rfl))
 have S2:=hide hHeld
 have e1:(w.alloc (.cells (tbC x) 115)).drew.heap.size=w.heap.size+1:=by simp
 rw [e1] at TH
 have TH2:=hide (TH.out.lt.more (lo':=0) (Nat.zero_le _) (Nat.le_refl _))
 clear hHeld TH e1 Q0
 generalize ((w.alloc (.cells (tbC x) 115)).drew.alloc (.cells #[.int .u8 0,.int .u8 ((numT x.s).toNat:Int),.int .u8 (F:Int)] 5))=w2 at *
 have NX2:=hide (At.nil w2 0 w2.heap.size none)
 have HLM:Hid ((rowO x.ms).length≤138600000000000):=hide (zng S2.out.s.sz.ms HFT.out.m S2.out.s.m.1.len)
 have HLU:Hid ((zdT x.us).length≤84000000000000):=hide (zlh S2.out.s.sz.us HFT.out.u S2.out.s.m.2.1.len)
 have HEM:Hid ((rowO x.ms).length+(zdT x.us).length≤138600000000000):=hide (by
  have h1:=HLM.out
  have h2:=HLU.out
  rcases zj5 (zeY HR.out).2.2.1 with h0 | h0
  ·have h3:zdT x.us=[]:=by rw [show x.us=[] from h0];rfl
   rw [h3];simpa using h1
  ·have h3:rowO x.ms=[]:=by rw [show x.ms=[] from h0];rfl
   rw [h3];simp;omega)
 cases b
 ·have HFL:Hid (([[0,numT x.s,UInt8.ofNat F],[],rowO x.ms,zdT x.us]:List (List UInt8)).flatten=valT false x.tb):=hide (by
   have e2:x.tb.f.toNat=F:=by show x.f.toNat=F;rw [HF.out];rfl
   unfold valT zli
   rw [e2]
   simp
   exact ⟨rfl,rfl⟩)
  have HSUM:Hid (([[0,numT x.s,UInt8.ofNat F],[],rowO x.ms,zdT x.us]:List (List UInt8)).flatten.length≤140737488351000):=hide (by
   have h1:=HLM.out
   have h2:=HLU.out
   have h4:=HEM.out
   simp
   omega)
  have k19:=S2.out.s.c19
  go_wp2_with fail
  refine (zmM _ lo hi x.mA x.mn x.mc x.ms S2.out.s.m.1 S2.out.here S2.out.s.sz.ms HFT.out.k HFT.out.m S2.out.n).mono ?_
  rintro e w4 ⟨v4,rfl,ho4,hb4⟩
  obtain ⟨A4,c4,rfl,_,_⟩:=zac ho4
  have S4:=hide (S2.out.on hb4)
  have M4:=hide ((At.own ho4).more (lo':=0) (hi':=w4.heap.size) (Nat.zero_le _) (Nat.le_refl _))
  have T4:=hide ((TH2.out.below hb4).more (lo':=0) (hi':=w4.heap.size) (Nat.le_refl _) hb4.size)
  have N4:=hide ((NX2.out.below hb4).more (lo':=0) (hi':=w4.heap.size) (Nat.le_refl _) hb4.size)
  have k20:=S4.out.s.c20
  clear ho4 hb4 S2 TH2 NX2 k19
  go_wp2_with fail
  refine (zmi _ lo hi x.uA x.un x.uc x.us S4.out.s.m.2.1 S4.out.here S4.out.s.sz.us HFT.out.u).mono ?_
  rintro e w5 ⟨v5,rfl,ho5,hb5⟩
  obtain ⟨A5,c5,rfl,_,_⟩:=zac ho5
  have S5:=hide (S4.out.on hb5)
  have U5:=hide ((At.own ho5).more (lo':=0) (hi':=w5.heap.size) (Nat.zero_le _) (Nat.le_refl _))
  have R5:=hide (znf (c1:=3) (c2:=0) (c3:=c4) (c4:=c5) ((T4.out.below hb5).more (lo':=0) (hi':=w5.heap.size) (Nat.le_refl _) hb5.size) ((N4.out.below hb5).more (lo':=0) (hi':=w5.heap.size) (Nat.le_refl _) hb5.size) ((M4.out.below hb5).more (lo':=0) (hi':=w5.heap.size) (Nat.le_refl _) hb5.size) U5.out)
  clear ho5 hb5 S4 T4 N4 M4 U5 k20
  go_wp2_with fail
  refine (zbE _ w5.heap.size 22 _ [[0,numT x.s,UInt8.ofNat F],[],rowO x.ms,zdT x.us] 4 rfl (by decide) (Blk.new w5 _ _) (R5.out.below ((Below.refl w5.heap.size w5).alloc (Nat.le_refl _) _) |>.wide (by simp)) HSUM.out).mono ?_
  rw [HFL.out]
  rintro e w6 ⟨v6,rfl,ho6,hb6⟩
  go_wp2
  go_ret
  exact ⟨v6,rfl,zaC ho6 (Nat.le_trans S5.out.s.bl.size (by simp)),zaa (S5.out.s.bl.alloc S5.out.s.bl.size _) hb6 (Nat.le_refl _)⟩
 ·obtain ⟨s,a,hs,hs16,ha,ha8,hra⟩:=znn HR.out
  have HL:=hide (zlG S2.out.s.sz.nb hra ha8 ha hs hs16)
  have HFL:Hid (([[0,numT x.s,UInt8.ofNat F],zhP x.tb,rowO x.ms,zdT x.us]:List (List UInt8)).flatten=valT true x.tb):=hide (by
   have e2:x.tb.f.toNat=F:=by show x.f.toNat=F;rw [HF.out];rfl
   unfold valT zli
   rw [e2]
   simp
   exact ⟨rfl,rfl⟩)
  have HSUM:Hid (([[0,numT x.s,UInt8.ofNat F],zhP x.tb,rowO x.ms,zdT x.us]:List (List UInt8)).flatten.length≤140737488351000):=hide (by
   have h1:=HLM.out
   have h2:=HLU.out
   have h4:=HEM.out
   have h3:=HL.out
   simp
   omega)
  have RG2:=hide S2.out.s.rng
  have HA:=hide ha
  have HS:=hide hs
  have HRA:=hide hra
  clear ha hs hra NX2
  go_wp2_with ((with_reducible refine zay ?_ (.tmp 2) rfl w.heap.size 0 rfl x RG2.out HOB.out ?_);· rfl)
  refine (zpr _ lo hi x S2.out.s.m S2.out.s.sz S2.out.here a s HA.out ha8 HS.out hs16 HRA.out).mono ?_
  rintro e w3 ⟨v3,rfl,ho3,hb3⟩
  obtain ⟨A3,c3,rfl,_,_⟩:=zac ho3
  have S3:=hide (S2.out.on hb3)
  have NX3:=hide ((At.own ho3).more (lo':=0) (hi':=w3.heap.size) (Nat.zero_le _) (Nat.le_refl _))
  have TH3:=hide ((TH2.out.below hb3).more (lo':=0) (hi':=w3.heap.size) (Nat.le_refl _) hb3.size)
  clear ho3 hb3 S2 TH2 RG2
  have k19b:=S3.out.s.c19
  go_wp2_with fail
  refine (zmM _ lo hi x.mA x.mn x.mc x.ms S3.out.s.m.1 S3.out.here S3.out.s.sz.ms HFT.out.k HFT.out.m S3.out.n).mono ?_
  rintro e w4 ⟨v4,rfl,ho4,hb4⟩
  obtain ⟨A4,c4,rfl,_,_⟩:=zac ho4
  have S4:=hide (S3.out.on hb4)
  have M4:=hide ((At.own ho4).more (lo':=0) (hi':=w4.heap.size) (Nat.zero_le _) (Nat.le_refl _))
  have T4:=hide ((TH3.out.below hb4).more (lo':=0) (hi':=w4.heap.size) (Nat.le_refl _) hb4.size)
  have N4:=hide ((NX3.out.below hb4).more (lo':=0) (hi':=w4.heap.size) (Nat.le_refl _) hb4.size)
  have k20:=S4.out.s.c20
  clear ho4 hb4 S3 TH3 NX3 k19b
  go_wp2_with fail
  refine (zmi _ lo hi x.uA x.un x.uc x.us S4.out.s.m.2.1 S4.out.here S4.out.s.sz.us HFT.out.u).mono ?_
  rintro e w5 ⟨v5,rfl,ho5,hb5⟩
  obtain ⟨A5,c5,rfl,_,_⟩:=zac ho5
  have S5:=hide (S4.out.on hb5)
  have U5:=hide ((At.own ho5).more (lo':=0) (hi':=w5.heap.size) (Nat.zero_le _) (Nat.le_refl _))
  have R5:=hide (znf (c1:=3) (c2:=c3) (c3:=c4) (c4:=c5) ((T4.out.below hb5).more (lo':=0) (hi':=w5.heap.size) (Nat.le_refl _) hb5.size) ((N4.out.below hb5).more (lo':=0) (hi':=w5.heap.size) (Nat.le_refl _) hb5.size) ((M4.out.below hb5).more (lo':=0) (hi':=w5.heap.size) (Nat.le_refl _) hb5.size) U5.out)
  clear ho5 hb5 S4 T4 N4 M4 U5 k20
  go_wp2_with fail
  refine (zbE _ w5.heap.size 22 _ [[0,numT x.s,UInt8.ofNat F],zhP x.tb,rowO x.ms,zdT x.us] 4 rfl (by decide) (Blk.new w5 _ _) (R5.out.below ((Below.refl w5.heap.size w5).alloc (Nat.le_refl _) _) |>.wide (by simp)) HSUM.out).mono ?_
  rw [HFL.out]
  rintro e w6 ⟨v6,rfl,ho6,hb6⟩
  go_wp2
  go_ret
  exact ⟨v6,rfl,zaC ho6 (Nat.le_trans S5.out.s.bl.size (by simp)),zaa (S5.out.s.bl.alloc S5.out.s.bl.size _) hb6 (Nat.le_refl _)⟩
end
end Go.Proofs.YthgainmcnjldaaaGreatDoor
