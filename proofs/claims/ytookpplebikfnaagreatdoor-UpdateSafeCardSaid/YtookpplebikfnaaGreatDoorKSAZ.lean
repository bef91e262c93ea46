/-
  Which tables and updates are right: isMroute, isUroute, rightRoutes, rightTable, few, Right of package update, in whatever memory. The one condition beyond sizes that fit memory: the program's tables hold what its text lays.
-/
import Derived.Test.YtookpplebikfnaaGreatDoorKSAY
set_option linter.unusedVariables false
set_option linter.unusedSimpArgs false
namespace Go.Proofs.YtookpplebikfnaaGreatDoor
section
set_option maxRecDepth 20000
set_option maxHeartbeats 1000000
open Go.RowKit
theorem zvD (b:List UInt8) (k:Int):(zmD b k).W:=by
 unfold zmD
 split
 ·exact ⟨rfl,rfl,rfl,rfl⟩
 ·exact zj4 b k
theorem zme {m:Mr} (w:m.W):(outB m).length≤110:=by
 unfold outB
 cases h:zbl m
 ·exact Nat.zero_le _
 ·exact zfa w h
structure FitT (x:TbP):Prop where
 m:x.mn≤1260000000000
 u:x.un≤3000000000000
 k:∀ m∈x.ms,m.key.length≤140737488351232
theorem zrx (w:World) (m:Mr) (s:Int) (hm:m.W) (hkey:m.key.length≤140737488351232) (hN:zaL w) :
  Calls Tryz.prog 134 #[.agg (mroC m),.int .i64 s] w fun e w'=>e = .returned (.bool (isM s m))∧Below w.heap.size w w':=by
 have W0:=hide ((Below.refl w.heap.size w).alloc (Nat.le_refl _) (.cells (mroC m) 86))
 have HB:=hide (Blk.new w 86 (mroC m))
 have HN:=hide (hN.below W0.out)
 have HM:=hide hm
 have HO:=hide (zme hm)
 have HKY:=hide hkey
 have HP:=hide (zvD (outB m) s)
 obtain ⟨r,hr⟩:∃ r,isM s m=r:=⟨_,rfl⟩
 have HR:Hid (decide (zkk (outB m) s=0)=r):=hide hr
 rw [hr]
 clear hr hm hN hkey
 go_enter Tryz.func134,Tryz.ntmps134
 go_wp2_with (with_reducible refine zay rfl (.tmp 2) rfl w.heap.size rfl HB.out HM.out ?_)
 refine (zgX _ m HM.out HKY.out HN.out).mono ?_
 rintro e w1 ⟨v1,rfl,ho1,hb1⟩
 obtain ⟨A1,c1,rfl,hc1,_⟩:=zad ho1
 have AT1:=hide (At.own ho1)
 have W1:=hide (zaa W0.out hb1 (Nat.le_refl _))
 have N1:=hide (HN.out.below hb1)
 have hl1:(outB m).length≤10000000000000:=by have:=HO.out;omega
 generalize errB m=er at *
 clear ho1 hb1
 go_wp2_with fail
 refine (zpd w1 _ _ A1 _ c1 (outB m) s AT1.out (Nat.le_refl _) hc1 hl1 N1.out).mono ?_
 generalize zmD (outB m) s=pr at *
 generalize zkk (outB m) s=pe at *
 rintro e w2 ⟨rfl,hb2⟩
 have W2:=hide (zaa W1.out hb2 (Nat.le_refl _))
 have NEW:=hide (Blk.new w2 86 zMro)
 clear hb2
 go_wp2_with (refine zao rfl (.tmp 7) (.tmp 18) rfl w2.heap.size rfl (m:=pr) rfl HP.out NEW.out rfl ?_;intro w3 hb3 hg3;have W3:Hid (Below w2.heap.size w2 w3):=hide (((Below.refl _ _).alloc (Nat.le_refl _) _).grown hg3 (by simp) (by simp));clear hb3 hg3;refine Hid.out ?_)
 refine hide ?_
 clear NEW
 go_wp2
 go_ret
 exact ⟨by rw [← HR.out];rfl,zaa W2.out W3.out (Nat.le_refl _)⟩
theorem zrw (w:World) (u:Ur) (s:Int) (hu:u.W) :
  Calls Tryz.prog 137 #[.agg (uroC u),.int .i64 s] w fun e w'=>e = .returned (.bool (isU s u))∧Below w.heap.size w w':=by
 have W0:=hide ((Below.refl w.heap.size w).alloc (Nat.le_refl _) (.cells (uroC u) 130))
 have HB:=hide (Blk.new w 130 (uroC u))
 have HU:=hide hu
 obtain ⟨r,hr⟩:∃ r,zbH u=r:=⟨_,rfl⟩
 have HR:=hide hr
 unfold isU
 rw [hr]
 clear hr hu
 go_enter Tryz.func137,Tryz.ntmps137
 go_wp2_with (with_reducible refine zbE rfl (.tmp 2) rfl w.heap.size rfl HB.out HU.out ?_)
 refine (zgK _ u HU.out).mono ?_
 rw [HR.out]
 rintro e w1 ⟨rfl,hb1⟩
 have W1:=hide (zaa W0.out hb1 (Nat.le_refl _))
 have k8:w1.cell? ⟨w.heap.size,8,none⟩=some (.int .i64 u.s):=((HB.out.over hb1).cell 8).trans (uroC_s HU.out)
 clear hb1
 cases r
 ·go_wp2
  go_ret
  exact ⟨rfl,W1.out⟩
 ·go_wp2
  go_ret
  exact ⟨by rw [Bool.true_and];rfl,W1.out⟩
theorem zq8 (w:World) (m:Mr) (s:Int) (hm:m.W) (hkey:m.key.length≤140737488351232) (hN:zaL w) (g:Nat) (c0:w.cell? ⟨g,0,none⟩=some (.int .i64 s)) :
  Calls Tryz.prog 133 #[.agg (mroC m),.pointer (some ⟨g,0,none⟩)] w fun e w'=>e = .returned (.bool (!isM s m))∧Below w.heap.size w w':=by
 have W0:=hide ((Below.refl w.heap.size w).alloc (Nat.le_refl _) (.cells (mroC m) 86))
 have HB:=hide (Blk.new w 86 (mroC m))
 have HM:=hide hm
 have k0:(w.alloc (.cells (mroC m) 86)).cell? ⟨g,0,none⟩=some (.int .i64 s):=(World.cell?_alloc_lt w _ _ (World.block_lt_of_cell? _ _ c0)).trans c0
 have HN:=hide (hN.below W0.out)
 have HKY:=hide hkey
 obtain ⟨r,hr⟩:∃ r,isM s m=r:=⟨_,rfl⟩
 have HR:=hide hr
 rw [hr]
 clear hr hm c0
 go_enter Tryz.func133,Tryz.ntmps133
 go_wp2_with (with_reducible refine zay rfl (.tmp 2) rfl w.heap.size rfl HB.out HM.out ?_)
 refine (zrx _ m s HM.out HKY.out HN.out).mono ?_
 rw [HR.out]
 rintro e w1 ⟨rfl,hb1⟩
 go_wp2
 go_ret
 exact ⟨rfl,zaa W0.out hb1 (Nat.le_refl _)⟩
theorem zmU (w:World) (lo hi:Nat) (A:Option Addr) (n c:Nat) (l:List Mr) (h:AtG mroL w lo hi A n l) (hw:∀ m∈l,m.W) (hh:hi≤w.heap.size) (hn:n≤3000000000000) (hkey:∀ m∈l,m.key.length≤140737488351232) (hN:zaL w) (s:Int) (g:Nat) (c0:w.cell? ⟨g,0,none⟩=some (.int .i64 s)) :
  Calls Tryz.prog 155 #[.slice A n c,.func (.func 133) #[] #[.pointer (some ⟨g,0,none⟩)]] w fun e w'=>∃ r:Int,e = .returned (.int .i64 r)∧decide (0≤r)=(!l.all (isM s))∧Below w.heap.size w w':=by
 have H:=hide h
 have HL:=hide h.len
 have HC:=hide c0
 have HW:=hide hw
 have HGS:=hide (World.block_lt_of_cell? _ _ c0)
 have HKY:=hide hkey
 have HNM:=hide hN
 clear hkey hN
 clear h c0 hw
 go_enter Tryz.func155,Tryz.ntmps155
 go_wp2_with fail
 go_loopw [8] (fun i wr=>∃ k:Nat,k≤n∧i = .int .i64 k∧(∀ x∈l.take k,isM s x=true)∧Below w.heap.size w wr) (fun i _=>n-(intOf i).toNat)
 case atStart=>exact ⟨0,Nat.zero_le _,rfl,(fun x hx=>by simp at hx),Below.refl _ _⟩
 case round =>
  obtain ⟨k,hk,rfl,hall,hbel⟩:=hrel
  have HA:=hide hall
  have WB:=hide hbel
  clear hall hbel
  by_cases hlt:k<n
  ·have YR:=hide (H.out.below (WB.out.mono hh))
   obtain ⟨b,o,x,rfl,_,_,hx,hat⟩:=YR.out.at_ (sz:=62) (fun y hy=>zev (HW.out y hy)) hlt
   have hmem:=List.mem_of_getElem? hx
   have HM:=hide (HW.out x hmem)
   have XK:=hide (HKY.out x hmem)
   have N1:=hide (HNM.out.below WB.out)
   have HX:=hide hx
   have HAT:=hide hat
   have HG:=hide ((WB.out.cell (p:=⟨g,0,none⟩) HGS.out).trans HC.out)
   obtain ⟨r,hr⟩:∃ r,isM s x=r:=⟨_,rfl⟩
   have HR:=hide hr
   have hkl:((k:Nat):Int)<(n:Int):=by omega
   clear hx hat hmem hr YR
   go_wp2_with (with_reducible refine zdK rfl (.tmp 14) rfl b (o+k*62) rfl HAT.out HM.out ?_)
   refine (zq8 wr x s HM.out XK.out N1.out g HG.out).mono ?_
   rw [HR.out]
   rintro e w1 ⟨rfl,hb1⟩
   have WB1:=hide (zaa WB.out hb1 (Nat.le_refl _))
   clear hb1
   cases r
   ·have HF:Hid (l.all (isM s)=false):=hide (List.all_eq_false.2 ⟨x,List.mem_of_getElem? HX.out,by rw [HR.out];decide⟩)
    go_wp2_with fail
    go_ret
    exact ⟨_,rfl,by rw [HF.out];exact decide_eq_true (by omega),WB1.out⟩
   ·have HNX:Hid (∀ y∈l.take (k+1),isM s y=true):=hide (by
     intro y hy
     rw [List.take_add_one,HX.out] at hy
     rcases List.mem_append.1 hy with hy | hy
     ·exact HA.out y hy
     ·rw [show y=x by simpa using hy];exact HR.out)
    go_wp2_with fail
    go_roundw
    case rel=>exact ⟨k+1,by omega,by go_num,HNX.out,WB1.out⟩
    case measure=>simp [intOf];omega
  ·obtain rfl:k=n:=by omega
   have HF:Hid (l.all (isM s)=true):=hide (by
    rw [List.all_eq_true]
    intro x hx
    exact HA.out x (by rw [List.take_of_length_le (by rw [HL.out];exact Nat.le_refl _)];exact hx))
   go_wp2
   go_ret
   exact ⟨_,rfl,by rw [HF.out];rfl,WB.out⟩
theorem zji (w:World) (lo hi:Nat) (A:Option Addr) (n c:Nat) (l:List Mr) (h:AtG mroL w lo hi A n l) (hw:∀ m∈l,m.W) (hh:hi≤w.heap.size) (hn:n≤3000000000000) (hkey:∀ m∈l,m.key.length≤140737488351232) (hN:zaL w) (s:Int) (g:Nat) (c0:w.cell? ⟨g,0,none⟩=some (.int .i64 s)) :
  Calls Tryz.prog 135 #[.slice A n c,.func (.func 133) #[] #[.pointer (some ⟨g,0,none⟩)]] w fun e w'=>e = .returned (.bool (!l.all (isM s)))∧Below w.heap.size w w':=by
 have HC:=hide (zmU w lo hi A n c l h hw hh hn hkey hN s g c0)
 obtain ⟨q,hq⟩:∃ q,l.all (isM s)=q:=⟨_,rfl⟩
 have HQ:=hide hq
 rw [hq]
 clear h hw hq c0
 go_enter Tryz.func135,Tryz.ntmps135
 go_wp2_with fail
 refine HC.out.mono ?_
 rintro e w1 ⟨r,rfl,hr,hb1⟩
 rw [HQ.out] at hr
 cases q
 ·have h0:(0:Int)≤r:=of_decide_eq_true hr
  clear hr
  go_wp2
  go_ret
  exact ⟨rfl,hb1⟩
 ·have h0:¬ (0:Int)≤r:=of_decide_eq_false hr
  clear hr
  go_wp2
  go_ret
  exact ⟨by show Ending.returned (.bool (decide (0≤r)))=_;rw [decide_eq_false (by omega)];rfl,hb1⟩
theorem zq7 (w:World) (m:Ur) (s:Int) (hm:m.W) (g:Nat) (c0:w.cell? ⟨g,0,none⟩=some (.int .i64 s)) :
  Calls Tryz.prog 136 #[.agg (uroC m),.pointer (some ⟨g,0,none⟩)] w fun e w'=>e = .returned (.bool (!isU s m))∧Below w.heap.size w w':=by
 have W0:=hide ((Below.refl w.heap.size w).alloc (Nat.le_refl _) (.cells (uroC m) 130))
 have HB:=hide (Blk.new w 130 (uroC m))
 have HM:=hide hm
 have k0:(w.alloc (.cells (uroC m) 130)).cell? ⟨g,0,none⟩=some (.int .i64 s):=(World.cell?_alloc_lt w _ _ (World.block_lt_of_cell? _ _ c0)).trans c0
 obtain ⟨r,hr⟩:∃ r,isU s m=r:=⟨_,rfl⟩
 have HR:=hide hr
 rw [hr]
 clear hr hm c0
 go_enter Tryz.func136,Tryz.ntmps136
 go_wp2_with (with_reducible refine zbE rfl (.tmp 2) rfl w.heap.size rfl HB.out HM.out ?_)
 refine (zrw _ m s HM.out).mono ?_
 rw [HR.out]
 rintro e w1 ⟨rfl,hb1⟩
 go_wp2
 go_ret
 exact ⟨rfl,zaa W0.out hb1 (Nat.le_refl _)⟩
theorem zmT (w:World) (lo hi:Nat) (A:Option Addr) (n c:Nat) (l:List Ur) (h:AtG uroL w lo hi A n l) (hw:∀ m∈l,m.W) (hh:hi≤w.heap.size) (hn:n≤3000000000000) (s:Int) (g:Nat) (c0:w.cell? ⟨g,0,none⟩=some (.int .i64 s)) :
  Calls Tryz.prog 156 #[.slice A n c,.func (.func 136) #[] #[.pointer (some ⟨g,0,none⟩)]] w fun e w'=>∃ r:Int,e = .returned (.int .i64 r)∧decide (0≤r)=(!l.all (isU s))∧Below w.heap.size w w':=by
 have H:=hide h
 have HL:=hide h.len
 have HC:=hide c0
 have HW:=hide hw
 have HGS:=hide (World.block_lt_of_cell? _ _ c0)
 clear h c0 hw
 go_enter Tryz.func156,Tryz.ntmps156
 go_wp2_with fail
 go_loopw [8] (fun i wr=>∃ k:Nat,k≤n∧i = .int .i64 k∧(∀ x∈l.take k,isU s x=true)∧Below w.heap.size w wr) (fun i _=>n-(intOf i).toNat)
 case atStart=>exact ⟨0,Nat.zero_le _,rfl,(fun x hx=>by simp at hx),Below.refl _ _⟩
 case round =>
  obtain ⟨k,hk,rfl,hall,hbel⟩:=hrel
  have HA:=hide hall
  have WB:=hide hbel
  clear hall hbel
  by_cases hlt:k<n
  ·have YR:=hide (H.out.below (WB.out.mono hh))
   obtain ⟨b,o,x,rfl,_,_,hx,hat⟩:=YR.out.at_ (sz:=27) (fun y hy=>zek (HW.out y hy)) hlt
   have hmem:=List.mem_of_getElem? hx
   have HM:=hide (HW.out x hmem)
   have HX:=hide hx
   have HAT:=hide hat
   have HG:=hide ((WB.out.cell (p:=⟨g,0,none⟩) HGS.out).trans HC.out)
   obtain ⟨r,hr⟩:∃ r,isU s x=r:=⟨_,rfl⟩
   have HR:=hide hr
   have hkl:((k:Nat):Int)<(n:Int):=by omega
   clear hx hat hmem hr YR
   go_wp2_with (with_reducible refine zdI rfl (.tmp 14) rfl b (o+k*27) rfl HAT.out HM.out ?_)
   refine (zq7 wr x s HM.out g HG.out).mono ?_
   rw [HR.out]
   rintro e w1 ⟨rfl,hb1⟩
   have WB1:=hide (zaa WB.out hb1 (Nat.le_refl _))
   clear hb1
   cases r
   ·have HF:Hid (l.all (isU s)=false):=hide (List.all_eq_false.2 ⟨x,List.mem_of_getElem? HX.out,by rw [HR.out];decide⟩)
    go_wp2_with fail
    go_ret
    exact ⟨_,rfl,by rw [HF.out];exact decide_eq_true (by omega),WB1.out⟩
   ·have HNX:Hid (∀ y∈l.take (k+1),isU s y=true):=hide (by
     intro y hy
     rw [List.take_add_one,HX.out] at hy
     rcases List.mem_append.1 hy with hy | hy
     ·exact HA.out y hy
     ·rw [show y=x by simpa using hy];exact HR.out)
    go_wp2_with fail
    go_roundw
    case rel=>exact ⟨k+1,by omega,by go_num,HNX.out,WB1.out⟩
    case measure=>simp [intOf];omega
  ·obtain rfl:k=n:=by omega
   have HF:Hid (l.all (isU s)=true):=hide (by
    rw [List.all_eq_true]
    intro x hx
    exact HA.out x (by rw [List.take_of_length_le (by rw [HL.out];exact Nat.le_refl _)];exact hx))
   go_wp2
   go_ret
   exact ⟨_,rfl,by rw [HF.out];rfl,WB.out⟩
theorem zjg (w:World) (lo hi:Nat) (A:Option Addr) (n c:Nat) (l:List Ur) (h:AtG uroL w lo hi A n l) (hw:∀ m∈l,m.W) (hh:hi≤w.heap.size) (hn:n≤3000000000000) (s:Int) (g:Nat) (c0:w.cell? ⟨g,0,none⟩=some (.int .i64 s)) :
  Calls Tryz.prog 138 #[.slice A n c,.func (.func 136) #[] #[.pointer (some ⟨g,0,none⟩)]] w fun e w'=>e = .returned (.bool (!l.all (isU s)))∧Below w.heap.size w w':=by
 have HC:=hide (zmT w lo hi A n c l h hw hh hn s g c0)
 obtain ⟨q,hq⟩:∃ q,l.all (isU s)=q:=⟨_,rfl⟩
 have HQ:=hide hq
 rw [hq]
 clear h hw hq c0
 go_enter Tryz.func138,Tryz.ntmps138
 go_wp2_with fail
 refine HC.out.mono ?_
 rintro e w1 ⟨r,rfl,hr,hb1⟩
 rw [HQ.out] at hr
 cases q
 ·have h0:(0:Int)≤r:=of_decide_eq_true hr
  clear hr
  go_wp2
  go_ret
  exact ⟨rfl,hb1⟩
 ·have h0:¬ (0:Int)≤r:=of_decide_eq_false hr
  clear hr
  go_wp2
  go_ret
  exact ⟨by show Ending.returned (.bool (decide (0≤r)))=_;rw [decide_eq_false (by omega)];rfl,hb1⟩
theorem zmt (w:World) (lo hi:Nat) (x:TbP) (h:mTb w lo hi x) (hw:wTb x) (hh:hi≤w.heap.size) (hfit:FitT x) (hN:zaL w) :
  Calls Tryz.prog 92 #[.agg (tbC x)] w fun e w'=>e = .returned (.bool (zdm x.tb))∧Below w.heap.size w w':=by
 have S0:=hide (TbS.start h hw hh)
 have N0:=hide (hN.below S0.out.bl)
 have c0:=hide S0.out.c0
 have c1:=S0.out.c1
 have c19:=S0.out.c19
 have c20:=S0.out.c20
 have HFT:=hide hfit
 have HLM:=hide h.1.len
 have HLU:=hide h.2.1.len
 have HH:=hide (show hi≤(w.alloc (.cells (tbC x) 53)).heap.size from Nat.le_trans hh S0.out.bl.size)
 have h1:x.mn≤3000000000000:=by have:=hfit.m;omega
 have h2:x.un≤3000000000000:=by have:=hfit.u;omega
 clear h hw hfit hN
 by_cases hf:x.f=5
 ·have HFU:Hid (zdm x.tb=(decide (x.us.length=0)&&x.ms.all (isM x.s))):=hide (by unfold zdm;rw [if_pos (show x.tb.f=5 from hf)];rfl)
  rw [HFU.out,HLU.out]
  by_cases hu:x.un=0
  ·have hu2:((x.un:Nat):Int)=0:=by omega
   rw [decide_eq_true hu,Bool.true_and]
   obtain ⟨r,hr⟩:∃ r,x.ms.all (isM x.s)=r:=⟨_,rfl⟩
   have HR:=hide hr
   rw [hr]
   clear hr hu
   go_enter Tryz.func92,Tryz.ntmps92
   go_wp2_with fail
   refine (zji _ lo hi x.mA x.mn x.mc x.ms S0.out.m.1 S0.out.sz.ms HH.out h1 HFT.out.k N0.out x.s w.heap.size c0.out).mono ?_
   rw [HR.out]
   rintro e w1 ⟨rfl,hb1⟩
   have S1:=hide (S0.out.on hb1)
   clear hb1
   go_wp2
   go_ret
   exact ⟨by cases r <;> rfl,S1.out.bl⟩
  ·have hu2:¬ ((x.un:Nat):Int)=0:=by omega
   rw [decide_eq_false hu,Bool.false_and]
   clear hu
   go_enter Tryz.func92,Tryz.ntmps92
   go_wp2
   go_ret
   exact ⟨rfl,S0.out.bl⟩
 ·have HFU:Hid (zdm x.tb=(decide (x.ms.length=0)&&x.us.all (isU x.s))):=hide (by unfold zdm;rw [if_neg (show ¬ x.tb.f=5 from hf)];rfl)
  rw [HFU.out,HLM.out]
  by_cases hu:x.mn=0
  ·have hu2:((x.mn:Nat):Int)=0:=by omega
   rw [decide_eq_true hu,Bool.true_and]
   obtain ⟨r,hr⟩:∃ r,x.us.all (isU x.s)=r:=⟨_,rfl⟩
   have HR:=hide hr
   rw [hr]
   clear hr hu
   go_enter Tryz.func92,Tryz.ntmps92
   go_wp2_with fail
   refine (zjg _ lo hi x.uA x.un x.uc x.us S0.out.m.2.1 S0.out.sz.us HH.out h2 x.s w.heap.size c0.out).mono ?_
   rw [HR.out]
   rintro e w1 ⟨rfl,hb1⟩
   have S1:=hide (S0.out.on hb1)
   clear hb1
   go_wp2
   go_ret
   exact ⟨by cases r <;> rfl,S1.out.bl⟩
  ·have hu2:¬ ((x.mn:Nat):Int)=0:=by omega
   rw [decide_eq_false hu,Bool.false_and]
   clear hu
   go_enter Tryz.func92,Tryz.ntmps92
   go_wp2
   go_ret
   exact ⟨rfl,S0.out.bl⟩
theorem zjv (w:World) (x:TbP) (hw:wTb x) :
  Calls Tryz.prog 91 #[.agg (tbC x)] w fun e w'=>e = .returned (.bool (zeZ x.s x.f))∧Below w.heap.size w w':=by
 have HB:=hide (Blk.new w 53 (tbC x))
 have c0:(w.alloc (.cells (tbC x) 53)).cell? ⟨w.heap.size,0,none⟩=some (.int .i64 x.s):=(HB.out.cell 0).trans (by unfold tbC;simpa using zon x)
 have c1:(w.alloc (.cells (tbC x) 53)).cell? ⟨w.heap.size,1,none⟩=some (.int .i64 x.f):=(HB.out.cell 1).trans (by unfold tbC;simpa using zom x)
 have W0:=hide ((Below.refl w.heap.size w).alloc (Nat.le_refl _) (.cells (tbC x) 53))
 clear hw HB
 go_enter Tryz.func91,Tryz.ntmps91
 go_wp2_with fail
 refine (zpv _ (x.s,x.f)).mono ?_
 rintro e w1 ⟨rfl,hb1⟩
 have W1:=hide (zaa W0.out hb1 (Nat.le_refl _))
 clear hb1
 go_wp2
 go_ret
 exact ⟨rfl,W1.out⟩
theorem znp (w:World) (lo hi:Nat) (x:TbP) (h:mTb w lo hi x) (hw:wTb x) (hh:hi≤w.heap.size) (hfit:FitT x) :
  Calls Tryz.prog 53 #[.agg (tbC x)] w fun e w'=>e = .returned (.bool (hasT x.tb))∧Below w.heap.size w w':=by
 have S0:=hide (TbS.start h hw hh)
 have c19:=S0.out.c19
 have c20:=S0.out.c20
 have h1:=hfit.m
 have h2:=hfit.u
 have HE:Hid (hasT x.tb=decide ((0:Int)<(x.mn:Int)+(x.un:Int))):=hide (by
  have e1:=h.1.len
  have e2:=h.2.1.len
  unfold hasT
  show decide (0<x.ms.length+x.us.length)=_
  rw [e1,e2]
  exact decide_eq_decide.2 (by omega))
 rw [HE.out]
 clear h hw hfit
 go_enter Tryz.func53,Tryz.ntmps53
 go_wp2
 go_ret
 exact ⟨rfl,S0.out.bl⟩
theorem zfj (w:World) (lo hi:Nat) (x:TbP) (b:Bool) (h:mTb w lo hi x) (hw:wTb x) (hh:hi≤w.heap.size) (hfit:FitT x) (hN:zaL w) :
  Calls Tryz.prog 52 #[.agg (tbC x),.bool b] w fun e w'=>e = .returned (.bool (zaY b x.tb))∧Below w.heap.size w w':=by
 have S0:=hide (TbS.start h hw hh)
 have N0:=hide (hN.below S0.out.bl)
 have HFT:=hide hfit
 have HOB:=hide (zdp hw)
 have HH:=hide (show hi≤(w.alloc (.cells (tbC x) 53)).heap.size from Nat.le_trans hh S0.out.bl.size)
 have RG:=hide S0.out.rng
 have RX:Hid (zaY b x.tb=(zeZ x.s x.f&&(zdm x.tb&&(zaA x.ns x.nb&&(b==decide (0<x.ns)))))):=hide rfl
 rw [RX.out]
 obtain ⟨q1,h1⟩:∃ r,zeZ x.s x.f=r:=⟨_,rfl⟩
 obtain ⟨q2,h2⟩:∃ r,zdm x.tb=r:=⟨_,rfl⟩
 obtain ⟨q3,h3⟩:∃ r,zaA x.ns x.nb=r:=⟨_,rfl⟩
 have H1:=hide h1
 have H2:=hide h2
 have H3:=hide h3
 rw [h1,h2,h3]
 clear h hw hfit hN h1 h2 h3 RX
 go_enter Tryz.func52,Tryz.ntmps52
 go_wp2_with ((with_reducible refine zap ?_ (.tmp 2) rfl w.heap.size 0 rfl x RG.out HOB.out ?_);· rfl)
 refine (zjv _ x S0.out.sz).mono ?_
 rw [H1.out]
 rintro e w1 ⟨rfl,hb1⟩
 have S1:=hide (S0.out.on hb1)
 have N1:=hide (N0.out.below hb1)
 have RG1:=hide S1.out.rng
 have HH1:=hide (Nat.le_trans HH.out hb1.size)
 clear hb1 S0 N0 RG HH
 cases q1
 ·go_wp2
  go_ret
  exact ⟨rfl,S1.out.bl⟩
 ·go_wp2_with ((with_reducible refine zap ?_ (.tmp 2) rfl w.heap.size 0 rfl x RG1.out HOB.out ?_);· rfl)
  refine (zmt w1 lo hi x S1.out.m S1.out.sz HH1.out HFT.out N1.out).mono ?_
  rw [H2.out]
  rintro e w2 ⟨rfl,hb2⟩
  have S2:=hide (S1.out.on hb2)
  have RG2:=hide S2.out.rng
  clear hb2 S1 N1 RG1 HH1
  cases q2
  ·go_wp2
   go_ret
   exact ⟨rfl,S2.out.bl⟩
  ·go_wp2_with (refine zam ?_ (zcN (.tmp 12) rfl w.heap.size 0 rfl RG2.out HOB.out) ?_;· rfl)
   refine (zcV w2 x.ns x.nb HOB.out).mono ?_
   rw [H3.out]
   rintro e w3 ⟨rfl,hb3⟩
   have S3:=hide (S2.out.on hb3)
   have c2:=S3.out.c2
   clear hb3 S2 RG2
   cases q3
   ·go_wp2
    go_ret
    exact ⟨rfl,S3.out.bl⟩
   ·cases b
    ·go_wp2
     go_ret
     exact ⟨by first | rfl | (cases decide (0<x.ns) <;> rfl),S3.out.bl⟩
    ·go_wp2
     go_ret
     exact ⟨by first | rfl | (cases decide (0<x.ns) <;> rfl),S3.out.bl⟩
theorem zmu (w:World) (lo hi:Nat) (x:TbP) (h:mTb w lo hi x) (hw:wTb x) (hh:hi≤w.heap.size) (hfit:FitT x) (hN:zaL w) :
  Calls Tryz.prog 25 #[.agg (tbC x)] w fun e w'=>e = .returned (.bool (zcn x.tb))∧Below w.heap.size w w':=by
 have S0:=hide (TbS.start h hw hh)
 have N0:=hide (hN.below S0.out.bl)
 have HFT:=hide hfit
 have HOB:=hide (zdp hw)
 have HH:=hide (show hi≤(w.alloc (.cells (tbC x) 53)).heap.size from Nat.le_trans hh S0.out.bl.size)
 have RG:=hide S0.out.rng
 unfold zcn
 obtain ⟨q1,h1⟩:∃ r,zaY true x.tb=r:=⟨_,rfl⟩
 obtain ⟨q2,h2⟩:∃ r,hasT x.tb=r:=⟨_,rfl⟩
 have H1:=hide h1
 have H2:=hide h2
 rw [h1,h2]
 clear h hw hfit hN h1 h2
 go_enter Tryz.func25,Tryz.ntmps25
 go_wp2_with ((with_reducible refine zap ?_ (.tmp 1) rfl w.heap.size 0 rfl x RG.out HOB.out ?_);· rfl)
 refine (zfj _ lo hi x true S0.out.m S0.out.sz HH.out HFT.out N0.out).mono ?_
 rw [H1.out]
 rintro e w1 ⟨rfl,hb1⟩
 have S1:=hide (S0.out.on hb1)
 have RG1:=hide S1.out.rng
 have HH1:=hide (Nat.le_trans HH.out hb1.size)
 clear hb1 S0 N0 RG HH
 cases q1
 ·go_wp2
  go_ret
  exact ⟨rfl,S1.out.bl⟩
 ·go_wp2_with ((with_reducible refine zap ?_ (.tmp 1) rfl w.heap.size 0 rfl x RG1.out HOB.out ?_);· rfl)
  refine (znp w1 lo hi x S1.out.m S1.out.sz HH1.out HFT.out).mono ?_
  rw [H2.out]
  rintro e w2 ⟨rfl,hb2⟩
  have S2:=hide (S1.out.on hb2)
  clear hb2
  go_wp2
  go_ret
  exact ⟨by cases q2 <;> rfl,S2.out.bl⟩
theorem zms (w:World) (lo hi:Nat) (x:TbP) (h:mTb w lo hi x) (hw:wTb x) (hh:hi≤w.heap.size) (hfit:FitT x) (hN:zaL w) :
  Calls Tryz.prog 26 #[.agg (tbC x)] w fun e w'=>e = .returned (.bool (zaY false x.tb))∧Below w.heap.size w w':=by
 have S0:=hide (TbS.start h hw hh)
 have N0:=hide (hN.below S0.out.bl)
 have HFT:=hide hfit
 have HOB:=hide (zdp hw)
 have HH:=hide (show hi≤(w.alloc (.cells (tbC x) 53)).heap.size from Nat.le_trans hh S0.out.bl.size)
 have RG:=hide S0.out.rng
 obtain ⟨q1,h1⟩:∃ r,zaY false x.tb=r:=⟨_,rfl⟩
 have H1:=hide h1
 rw [h1]
 clear h hw hfit hN h1
 go_enter Tryz.func26,Tryz.ntmps26
 go_wp2_with ((with_reducible refine zap ?_ (.tmp 1) rfl w.heap.size 0 rfl x RG.out HOB.out ?_);· rfl)
 refine (zfj _ lo hi x false S0.out.m S0.out.sz HH.out HFT.out N0.out).mono ?_
 rw [H1.out]
 rintro e w1 ⟨rfl,hb1⟩
 have S1:=hide (S0.out.on hb1)
 clear hb1 S0 N0 RG HH
 go_wp2
 go_ret
 exact ⟨rfl,S1.out.bl⟩
end
end Go.Proofs.YtookpplebikfnaaGreatDoor
