/-
  Which tables and updates are right: isMroute, isUroute, rightRoutes, rightTable, few, Right of package update, in whatever memory. The one condition beyond sizes that fit memory: the program's tables hold what its text lays.
  What said of numbers, and take of package attr, do, in whatever memory. No condition.
  What next and Read of package attr do with attributes of distinct kinds, in whatever memory. The one condition: the table of kinds holds what its text lays.
  What Read of package attr does with attributes of distinct kinds, in whatever memory. The one condition: the table of kinds holds what its text lays.
  One step of Read at an attribute that is as it is written: it is taken. The one condition: the table of kinds holds what its text lays.
  What a value says where it says an address or communities, in whatever memory. No condition.
  What a value says where it says a row of addresses, in whatever memory. No condition.
-/
import Derived.Maps.OwnOps
import Derived.Test.YtjindligkhdddaaGreatDoorSDBC
set_option linter.unusedVariables false
set_option linter.unusedSimpArgs false
namespace Go.Proofs.YtjindligkhdddaaGreatDoor
section
set_option maxRecDepth 20000
set_option maxHeartbeats 1000000
open Go.RowKit
theorem zxz (b:List UInt8) (k:Int):(znH b k).W:=by
 unfold znH
 split
 ·exact ⟨rfl,rfl,rfl,rfl⟩
 ·exact zkA b k
theorem znf {m:Mr} (w:m.W):(outB m).length≤110:=by
 unfold outB
 cases h:zbf m
 ·exact Nat.zero_le _
 ·exact zfa w h
structure FitT (x:TbP):Prop where
 m:x.mn≤1260000000000
 u:x.un≤3000000000000
 k:∀ m∈x.ms,m.key.length≤140737488351232
theorem zs6 (w:World) (m:Mr) (s:Int) (hm:m.W) (hkey:m.key.length≤140737488351232) (hN:za0 w) :
  Calls Tryz.prog 154 #[.agg (mroC m),.int .i64 s] w fun e w'=>e = .returned (.bool (isM s m))∧Below w.heap.size w w':=by
 have W0:=hide ((Below.refl w.heap.size w).alloc (Nat.le_refl _) (.cells (mroC m) 229))
 have HB:=hide (Blk.new w 229 (mroC m))
 have HN:=hide (hN.below W0.out)
 have HM:=hide hm
 have HO:=hide (znf hm)
 have HKY:=hide hkey
 have HP:=hide (zxz (outB m) s)
 obtain ⟨r,hr⟩:∃ r,isM s m=r:=⟨_,rfl⟩
 have HR:Hid (decide (zkS (outB m) s=0)=r):=hide hr
 rw [hr]
 clear hr hm hN hkey
 go_enter Tryz.func154,Tryz.ntmps154
 go_wp2_with (with_reducible refine zay rfl (.tmp 2) rfl w.heap.size rfl HB.out HM.out ?_)
 refine (zg1 _ m HM.out HKY.out HN.out).mono ?_
 rintro e w1 ⟨v1,rfl,ho1,hb1⟩
 obtain ⟨A1,c1,rfl,hc1,_⟩:=zag ho1
 have AT1:=hide (At.own ho1)
 have W1:=hide (zaa W0.out hb1 (Nat.le_refl _))
 have N1:=hide (HN.out.below hb1)
 have hl1:(outB m).length≤10000000000000:=by have:=HO.out;omega
 generalize errB m=er at *
 clear ho1 hb1
 go_wp2_with fail
 refine (zqx w1 _ _ A1 _ c1 (outB m) s AT1.out (Nat.le_refl _) hc1 hl1 N1.out).mono ?_
 generalize znH (outB m) s=pr at *
 generalize zkS (outB m) s=pe at *
 rintro e w2 ⟨rfl,hb2⟩
 have W2:=hide (zaa W1.out hb2 (Nat.le_refl _))
 have NEW:=hide (Blk.new w2 229 zMro)
 clear hb2
 go_wp2_with (refine zar rfl (.tmp 7) (.tmp 18) rfl w2.heap.size rfl (m:=pr) rfl HP.out NEW.out rfl ?_;intro w3 hb3 hg3;have W3:Hid (Below w2.heap.size w2 w3):=hide (((Below.refl _ _).alloc (Nat.le_refl _) _).grown hg3 (by simp) (by simp));clear hb3 hg3;refine Hid.out ?_)
 refine hide ?_
 clear NEW
 go_wp2
 go_ret
 exact ⟨by rw [← HR.out];rfl,zaa W2.out W3.out (Nat.le_refl _)⟩
theorem zs5 (w:World) (u:Ur) (s:Int) (hu:u.W) :
  Calls Tryz.prog 157 #[.agg (uroC u),.int .i64 s] w fun e w'=>e = .returned (.bool (isU s u))∧Below w.heap.size w w':=by
 have W0:=hide ((Below.refl w.heap.size w).alloc (Nat.le_refl _) (.cells (uroC u) 236))
 have HB:=hide (Blk.new w 236 (uroC u))
 have HU:=hide hu
 obtain ⟨r,hr⟩:∃ r,zbH u=r:=⟨_,rfl⟩
 have HR:=hide hr
 unfold isU
 rw [hr]
 clear hr hu
 go_enter Tryz.func157,Tryz.ntmps157
 go_wp2_with (with_reducible refine zbE rfl (.tmp 2) rfl w.heap.size rfl HB.out HU.out ?_)
 refine (zgM _ u HU.out).mono ?_
 rw [HR.out]
 rintro e w1 ⟨rfl,hb1⟩
 have W1:=hide (zaa W0.out hb1 (Nat.le_refl _))
 have k8:w1.cell? ⟨w.heap.size,8,none⟩=some (.int .i64 u.s):=((HB.out.over hb1).cell 8).trans (uroC_s HU.out)
 clear hb1
 cases r
 ·go_wp2
  go_ret
  exact ⟨rfl,W1.out⟩
 ·go_wp2
  go_ret
  exact ⟨by rw [Bool.true_and];rfl,W1.out⟩
theorem zsF (w:World) (m:Mr) (s:Int) (hm:m.W) (hkey:m.key.length≤140737488351232) (hN:za0 w) (g:Nat) (c0:w.cell? ⟨g,0,none⟩=some (.int .i64 s)) :
  Calls Tryz.prog 153 #[.agg (mroC m),.pointer (some ⟨g,0,none⟩)] w fun e w'=>e = .returned (.bool (!isM s m))∧Below w.heap.size w w':=by
 have W0:=hide ((Below.refl w.heap.size w).alloc (Nat.le_refl _) (.cells (mroC m) 229))
 have HB:=hide (Blk.new w 229 (mroC m))
 have HM:=hide hm
 have k0:(w.alloc (.cells (mroC m) 229)).cell? ⟨g,0,none⟩=some (.int .i64 s):=(World.cell?_alloc_lt w _ _ (World.block_lt_of_cell? _ _ c0)).trans c0
 have HN:=hide (hN.below W0.out)
 have HKY:=hide hkey
 obtain ⟨r,hr⟩:∃ r,isM s m=r:=⟨_,rfl⟩
 have HR:=hide hr
 rw [hr]
 clear hr hm c0
 go_enter Tryz.func153,Tryz.ntmps153
 go_wp2_with (with_reducible refine zay rfl (.tmp 2) rfl w.heap.size rfl HB.out HM.out ?_)
 refine (zs6 _ m s HM.out HKY.out HN.out).mono ?_
 rw [HR.out]
 rintro e w1 ⟨rfl,hb1⟩
 go_wp2
 go_ret
 exact ⟨rfl,zaa W0.out hb1 (Nat.le_refl _)⟩
theorem zn3 (w:World) (lo hi:Nat) (A:Option Addr) (n c:Nat) (l:List Mr) (h:AtG mroL w lo hi A n l) (hw:∀ m∈l,m.W) (hh:hi≤w.heap.size) (hn:n≤3000000000000) (hkey:∀ m∈l,m.key.length≤140737488351232) (hN:za0 w) (s:Int) (g:Nat) (c0:w.cell? ⟨g,0,none⟩=some (.int .i64 s)) :
  Calls Tryz.prog 182 #[.slice A n c,.func (.func 153) #[] #[.pointer (some ⟨g,0,none⟩)]] w fun e w'=>∃ r:Int,e = .returned (.int .i64 r)∧decide (0≤r)=(!l.all (isM s))∧Below w.heap.size w w':=by
 have H:=hide h
 have HL:=hide h.len
 have HC:=hide c0
 have HW:=hide hw
 have HGS:=hide (World.block_lt_of_cell? _ _ c0)
 have HKY:=hide hkey
 have HNM:=hide hN
 clear hkey hN
 clear h c0 hw
 go_enter Tryz.func182,Tryz.ntmps182
 go_wp2_with fail
 go_loopw [8] (fun i wr=>∃ k:Nat,k≤n∧i = .int .i64 k∧(∀ x∈l.take k,isM s x=true)∧Below w.heap.size w wr) (fun i _=>n-(intOf i).toNat)
 case atStart=>exact ⟨0,Nat.zero_le _,rfl,(fun x hx=>by simp at hx),Below.refl _ _⟩
 case round =>
  obtain ⟨k,hk,rfl,hall,hbel⟩:=hrel
  have HA:=hide hall
  have WB:=hide hbel
  clear hall hbel
  by_cases hlt:k<n
  ·have YR:=hide (H.out.below (WB.out.mono hh))
   obtain ⟨b,o,x,rfl,_,_,hx,hat⟩:=YR.out.at_ (sz:=62) (fun y hy=>zer (HW.out y hy)) hlt
   have hmem:=List.mem_of_getElem? hx
   have HM:=hide (HW.out x hmem)
   have XK:=hide (HKY.out x hmem)
   have N1:=hide (HNM.out.below WB.out)
   have HX:=hide hx
   have HAT:=hide hat
   have HG:=hide ((WB.out.cell (p:=⟨g,0,none⟩) HGS.out).trans HC.out)
   obtain ⟨r,hr⟩:∃ r,isM s x=r:=⟨_,rfl⟩
   have HR:=hide hr
   have hkl:((k:Nat):Int)<(n:Int):=by omega
   clear hx hat hmem hr YR
   go_wp2_with (with_reducible refine zdQ rfl (.tmp 14) rfl b (o+k*62) rfl HAT.out HM.out ?_)
   refine (zsF wr x s HM.out XK.out N1.out g HG.out).mono ?_
   rw [HR.out]
   rintro e w1 ⟨rfl,hb1⟩
   have WB1:=hide (zaa WB.out hb1 (Nat.le_refl _))
   clear hb1
   cases r
   ·have HF:Hid (l.all (isM s)=false):=hide (List.all_eq_false.2 ⟨x,List.mem_of_getElem? HX.out,by rw [HR.out];decide⟩)
    go_wp2_with fail
    go_ret
    exact ⟨_,rfl,by rw [HF.out];exact decide_eq_true (by omega),WB1.out⟩
   ·have HNX:Hid (∀ y∈l.take (k+1),isM s y=true):=hide (by
     intro y hy
     rw [List.take_add_one,HX.out] at hy
     rcases List.mem_append.1 hy with hy | hy
     ·exact HA.out y hy
     ·rw [show y=x by simpa using hy];exact HR.out)
    go_wp2_with fail
    go_roundw
    case rel=>exact ⟨k+1,by omega,by go_num,HNX.out,WB1.out⟩
    case measure=>simp [intOf];omega
  ·obtain rfl:k=n:=by omega
   have HF:Hid (l.all (isM s)=true):=hide (by
    rw [List.all_eq_true]
    intro x hx
    exact HA.out x (by rw [List.take_of_length_le (by rw [HL.out];exact Nat.le_refl _)];exact hx))
   go_wp2
   go_ret
   exact ⟨_,rfl,by rw [HF.out];rfl,WB.out⟩
theorem zjM (w:World) (lo hi:Nat) (A:Option Addr) (n c:Nat) (l:List Mr) (h:AtG mroL w lo hi A n l) (hw:∀ m∈l,m.W) (hh:hi≤w.heap.size) (hn:n≤3000000000000) (hkey:∀ m∈l,m.key.length≤140737488351232) (hN:za0 w) (s:Int) (g:Nat) (c0:w.cell? ⟨g,0,none⟩=some (.int .i64 s)) :
  Calls Tryz.prog 155 #[.slice A n c,.func (.func 153) #[] #[.pointer (some ⟨g,0,none⟩)]] w fun e w'=>e = .returned (.bool (!l.all (isM s)))∧Below w.heap.size w w':=by
 have HC:=hide (zn3 w lo hi A n c l h hw hh hn hkey hN s g c0)
 obtain ⟨q,hq⟩:∃ q,l.all (isM s)=q:=⟨_,rfl⟩
 have HQ:=hide hq
 rw [hq]
 clear h hw hq c0
 go_enter Tryz.func155,Tryz.ntmps155
 go_wp2_with fail
 refine HC.out.mono ?_
 rintro e w1 ⟨r,rfl,hr,hb1⟩
 rw [HQ.out] at hr
 cases q
 ·have h0:(0:Int)≤r:=of_decide_eq_true hr
  clear hr
  go_wp2
  go_ret
  exact ⟨rfl,hb1⟩
 ·have h0:¬ (0:Int)≤r:=of_decide_eq_false hr
  clear hr
  go_wp2
  go_ret
  exact ⟨by show Ending.returned (.bool (decide (0≤r)))=_;rw [decide_eq_false (by omega)];rfl,hb1⟩
theorem zsE (w:World) (m:Ur) (s:Int) (hm:m.W) (g:Nat) (c0:w.cell? ⟨g,0,none⟩=some (.int .i64 s)) :
  Calls Tryz.prog 156 #[.agg (uroC m),.pointer (some ⟨g,0,none⟩)] w fun e w'=>e = .returned (.bool (!isU s m))∧Below w.heap.size w w':=by
 have W0:=hide ((Below.refl w.heap.size w).alloc (Nat.le_refl _) (.cells (uroC m) 236))
 have HB:=hide (Blk.new w 236 (uroC m))
 have HM:=hide hm
 have k0:(w.alloc (.cells (uroC m) 236)).cell? ⟨g,0,none⟩=some (.int .i64 s):=(World.cell?_alloc_lt w _ _ (World.block_lt_of_cell? _ _ c0)).trans c0
 obtain ⟨r,hr⟩:∃ r,isU s m=r:=⟨_,rfl⟩
 have HR:=hide hr
 rw [hr]
 clear hr hm c0
 go_enter Tryz.func156,Tryz.ntmps156
 go_wp2_with (with_reducible refine zbE rfl (.tmp 2) rfl w.heap.size rfl HB.out HM.out ?_)
 refine (zs5 _ m s HM.out).mono ?_
 rw [HR.out]
 rintro e w1 ⟨rfl,hb1⟩
 go_wp2
 go_ret
 exact ⟨rfl,zaa W0.out hb1 (Nat.le_refl _)⟩
theorem zn2 (w:World) (lo hi:Nat) (A:Option Addr) (n c:Nat) (l:List Ur) (h:AtG uroL w lo hi A n l) (hw:∀ m∈l,m.W) (hh:hi≤w.heap.size) (hn:n≤3000000000000) (s:Int) (g:Nat) (c0:w.cell? ⟨g,0,none⟩=some (.int .i64 s)) :
  Calls Tryz.prog 184 #[.slice A n c,.func (.func 156) #[] #[.pointer (some ⟨g,0,none⟩)]] w fun e w'=>∃ r:Int,e = .returned (.int .i64 r)∧decide (0≤r)=(!l.all (isU s))∧Below w.heap.size w w':=by
 have H:=hide h
 have HL:=hide h.len
 have HC:=hide c0
 have HW:=hide hw
 have HGS:=hide (World.block_lt_of_cell? _ _ c0)
 clear h c0 hw
 go_enter Tryz.func184,Tryz.ntmps184
 go_wp2_with fail
 go_loopw [8] (fun i wr=>∃ k:Nat,k≤n∧i = .int .i64 k∧(∀ x∈l.take k,isU s x=true)∧Below w.heap.size w wr) (fun i _=>n-(intOf i).toNat)
 case atStart=>exact ⟨0,Nat.zero_le _,rfl,(fun x hx=>by simp at hx),Below.refl _ _⟩
 case round =>
  obtain ⟨k,hk,rfl,hall,hbel⟩:=hrel
  have HA:=hide hall
  have WB:=hide hbel
  clear hall hbel
  by_cases hlt:k<n
  ·have YR:=hide (H.out.below (WB.out.mono hh))
   obtain ⟨b,o,x,rfl,_,_,hx,hat⟩:=YR.out.at_ (sz:=27) (fun y hy=>zej (HW.out y hy)) hlt
   have hmem:=List.mem_of_getElem? hx
   have HM:=hide (HW.out x hmem)
   have HX:=hide hx
   have HAT:=hide hat
   have HG:=hide ((WB.out.cell (p:=⟨g,0,none⟩) HGS.out).trans HC.out)
   obtain ⟨r,hr⟩:∃ r,isU s x=r:=⟨_,rfl⟩
   have HR:=hide hr
   have hkl:((k:Nat):Int)<(n:Int):=by omega
   clear hx hat hmem hr YR
   go_wp2_with (with_reducible refine zdO rfl (.tmp 14) rfl b (o+k*27) rfl HAT.out HM.out ?_)
   refine (zsE wr x s HM.out g HG.out).mono ?_
   rw [HR.out]
   rintro e w1 ⟨rfl,hb1⟩
   have WB1:=hide (zaa WB.out hb1 (Nat.le_refl _))
   clear hb1
   cases r
   ·have HF:Hid (l.all (isU s)=false):=hide (List.all_eq_false.2 ⟨x,List.mem_of_getElem? HX.out,by rw [HR.out];decide⟩)
    go_wp2_with fail
    go_ret
    exact ⟨_,rfl,by rw [HF.out];exact decide_eq_true (by omega),WB1.out⟩
   ·have HNX:Hid (∀ y∈l.take (k+1),isU s y=true):=hide (by
     intro y hy
     rw [List.take_add_one,HX.out] at hy
     rcases List.mem_append.1 hy with hy | hy
     ·exact HA.out y hy
     ·rw [show y=x by simpa using hy];exact HR.out)
    go_wp2_with fail
    go_roundw
    case rel=>exact ⟨k+1,by omega,by go_num,HNX.out,WB1.out⟩
    case measure=>simp [intOf];omega
  ·obtain rfl:k=n:=by omega
   have HF:Hid (l.all (isU s)=true):=hide (by
    rw [List.all_eq_true]
    intro x hx
    exact HA.out x (by rw [List.take_of_length_le (by rw [HL.out];exact Nat.le_refl _)];exact hx))
   go_wp2
   go_ret
   exact ⟨_,rfl,by rw [HF.out];rfl,WB.out⟩
theorem zjK (w:World) (lo hi:Nat) (A:Option Addr) (n c:Nat) (l:List Ur) (h:AtG uroL w lo hi A n l) (hw:∀ m∈l,m.W) (hh:hi≤w.heap.size) (hn:n≤3000000000000) (s:Int) (g:Nat) (c0:w.cell? ⟨g,0,none⟩=some (.int .i64 s)) :
  Calls Tryz.prog 158 #[.slice A n c,.func (.func 156) #[] #[.pointer (some ⟨g,0,none⟩)]] w fun e w'=>e = .returned (.bool (!l.all (isU s)))∧Below w.heap.size w w':=by
 have HC:=hide (zn2 w lo hi A n c l h hw hh hn s g c0)
 obtain ⟨q,hq⟩:∃ q,l.all (isU s)=q:=⟨_,rfl⟩
 have HQ:=hide hq
 rw [hq]
 clear h hw hq c0
 go_enter Tryz.func158,Tryz.ntmps158
 go_wp2_with fail
 refine HC.out.mono ?_
 rintro e w1 ⟨r,rfl,hr,hb1⟩
 rw [HQ.out] at hr
 cases q
 ·have h0:(0:Int)≤r:=of_decide_eq_true hr
  clear hr
  go_wp2
  go_ret
  exact ⟨rfl,hb1⟩
 ·have h0:¬ (0:Int)≤r:=of_decide_eq_false hr
  clear hr
  go_wp2
  go_ret
  exact ⟨by show Ending.returned (.bool (decide (0≤r)))=_;rw [decide_eq_false (by omega)];rfl,hb1⟩
theorem znr (w:World) (lo hi:Nat) (x:TbP) (h:mTb w lo hi x) (hw:wTb x) (hh:hi≤w.heap.size) (hfit:FitT x) (hN:za0 w) :
  Calls Tryz.prog 128 #[.agg (tbC x)] w fun e w'=>e = .returned (.bool (zdi x.tb))∧Below w.heap.size w w':=by
 have S0:=hide (TbS.start h hw hh)
 have N0:=hide (hN.below S0.out.bl)
 have c0:=hide S0.out.c0
 have c1:=S0.out.c1
 have c19:=S0.out.c19
 have c20:=S0.out.c20
 have HFT:=hide hfit
 have HLM:=hide h.1.len
 have HLU:=hide h.2.1.len
 have HH:=hide (show hi≤(w.alloc (.cells (tbC x) 162)).heap.size from Nat.le_trans hh S0.out.bl.size)
 have h1:x.mn≤3000000000000:=by have:=hfit.m;omega
 have h2:x.un≤3000000000000:=by have:=hfit.u;omega
 clear h hw hfit hN
 by_cases hf:x.f=5
 ·have HFU:Hid (zdi x.tb=(decide (x.us.length=0)&&x.ms.all (isM x.s))):=hide (by unfold zdi;rw [if_pos (show x.tb.f=5 from hf)];rfl)
  rw [HFU.out,HLU.out]
  by_cases hu:x.un=0
  ·have hu2:((x.un:Nat):Int)=0:=by omega
   rw [decide_eq_true hu,Bool.true_and]
   obtain ⟨r,hr⟩:∃ r,x.ms.all (isM x.s)=r:=⟨_,rfl⟩
   have HR:=hide hr
   rw [hr]
   clear hr hu
   go_enter Tryz.func128,Tryz.ntmps128
   go_wp2_with fail
   refine (zjM _ lo hi x.mA x.mn x.mc x.ms S0.out.m.1 S0.out.sz.ms HH.out h1 HFT.out.k N0.out x.s w.heap.size c0.out).mono ?_
   rw [HR.out]
   rintro e w1 ⟨rfl,hb1⟩
   have S1:=hide (S0.out.on hb1)
   clear hb1
   go_wp2
   go_ret
   exact ⟨by cases r <;> rfl,S1.out.bl⟩
  ·have hu2:¬ ((x.un:Nat):Int)=0:=by omega
   rw [decide_eq_false hu,Bool.false_and]
   clear hu
   go_enter Tryz.func128,Tryz.ntmps128
   go_wp2
   go_ret
   exact ⟨rfl,S0.out.bl⟩
 ·have HFU:Hid (zdi x.tb=(decide (x.ms.length=0)&&x.us.all (isU x.s))):=hide (by unfold zdi;rw [if_neg (show ¬ x.tb.f=5 from hf)];rfl)
  rw [HFU.out,HLM.out]
  by_cases hu:x.mn=0
  ·have hu2:((x.mn:Nat):Int)=0:=by omega
   rw [decide_eq_true hu,Bool.true_and]
   obtain ⟨r,hr⟩:∃ r,x.us.all (isU x.s)=r:=⟨_,rfl⟩
   have HR:=hide hr
   rw [hr]
   clear hr hu
   go_enter Tryz.func128,Tryz.ntmps128
   go_wp2_with fail
   refine (zjK _ lo hi x.uA x.un x.uc x.us S0.out.m.2.1 S0.out.sz.us HH.out h2 x.s w.heap.size c0.out).mono ?_
   rw [HR.out]
   rintro e w1 ⟨rfl,hb1⟩
   have S1:=hide (S0.out.on hb1)
   clear hb1
   go_wp2
   go_ret
   exact ⟨by cases r <;> rfl,S1.out.bl⟩
  ·have hu2:¬ ((x.mn:Nat):Int)=0:=by omega
   rw [decide_eq_false hu,Bool.false_and]
   clear hu
   go_enter Tryz.func128,Tryz.ntmps128
   go_wp2
   go_ret
   exact ⟨rfl,S0.out.bl⟩
theorem zjW (w:World) (x:TbP) (hw:wTb x) :
  Calls Tryz.prog 127 #[.agg (tbC x)] w fun e w'=>e = .returned (.bool (zdG x.s x.f))∧Below w.heap.size w w':=by
 have HB:=hide (Blk.new w 162 (tbC x))
 have c0:(w.alloc (.cells (tbC x) 162)).cell? ⟨w.heap.size,0,none⟩=some (.int .i64 x.s):=(HB.out.cell 0).trans (by unfold tbC;simpa using zrz x)
 have c1:(w.alloc (.cells (tbC x) 162)).cell? ⟨w.heap.size,1,none⟩=some (.int .i64 x.f):=(HB.out.cell 1).trans (by unfold tbC;simpa using zry x)
 have W0:=hide ((Below.refl w.heap.size w).alloc (Nat.le_refl _) (.cells (tbC x) 162))
 clear hw HB
 go_enter Tryz.func127,Tryz.ntmps127
 go_wp2_with fail
 refine (zg4 _ (x.s,x.f)).mono ?_
 rintro e w1 ⟨rfl,hb1⟩
 have W1:=hide (zaa W0.out hb1 (Nat.le_refl _))
 clear hb1
 go_wp2
 go_ret
 exact ⟨rfl,W1.out⟩
theorem zuj (w:World) (lo hi:Nat) (x:TbP) (h:mTb w lo hi x) (hw:wTb x) (hh:hi≤w.heap.size) (hfit:FitT x) :
  Calls Tryz.prog 90 #[.agg (tbC x)] w fun e w'=>e = .returned (.bool (hasT x.tb))∧Below w.heap.size w w':=by
 have S0:=hide (TbS.start h hw hh)
 have c19:=S0.out.c19
 have c20:=S0.out.c20
 have h1:=hfit.m
 have h2:=hfit.u
 have HE:Hid (hasT x.tb=decide ((0:Int)<(x.mn:Int)+(x.un:Int))):=hide (by
  have e1:=h.1.len
  have e2:=h.2.1.len
  unfold hasT
  show decide (0<x.ms.length+x.us.length)=_
  rw [e1,e2]
  exact decide_eq_decide.2 (by omega))
 rw [HE.out]
 clear h hw hfit
 go_enter Tryz.func90,Tryz.ntmps90
 go_wp2
 go_ret
 exact ⟨rfl,S0.out.bl⟩
theorem zj6 (w:World) (lo hi:Nat) (x:TbP) (b:Bool) (h:mTb w lo hi x) (hw:wTb x) (hh:hi≤w.heap.size) (hfit:FitT x) (hN:za0 w) :
  Calls Tryz.prog 89 #[.agg (tbC x),.bool b] w fun e w'=>e = .returned (.bool (zcb b x.tb))∧Below w.heap.size w w':=by
 have S0:=hide (TbS.start h hw hh)
 have N0:=hide (hN.below S0.out.bl)
 have HFT:=hide hfit
 have HOB:=hide (zf8 hw)
 have HH:=hide (show hi≤(w.alloc (.cells (tbC x) 162)).heap.size from Nat.le_trans hh S0.out.bl.size)
 have RG:=hide S0.out.rng
 have RX:Hid (zcb b x.tb=(zdG x.s x.f&&(zdi x.tb&&(zaz x.ns x.nb&&(b==decide (0<x.ns)))))):=hide rfl
 rw [RX.out]
 obtain ⟨q1,h1⟩:∃ r,zdG x.s x.f=r:=⟨_,rfl⟩
 obtain ⟨q2,h2⟩:∃ r,zdi x.tb=r:=⟨_,rfl⟩
 obtain ⟨q3,h3⟩:∃ r,zaz x.ns x.nb=r:=⟨_,rfl⟩
 have H1:=hide h1
 have H2:=hide h2
 have H3:=hide h3
 rw [h1,h2,h3]
 clear h hw hfit hN h1 h2 h3 RX
 go_enter Tryz.func89,Tryz.ntmps89
 go_wp2_with ((with_reducible refine zaF ?_ (.tmp 2) rfl w.heap.size 0 rfl x RG.out HOB.out ?_);· rfl)
 refine (zjW _ x S0.out.sz).mono ?_
 rw [H1.out]
 rintro e w1 ⟨rfl,hb1⟩
 have S1:=hide (S0.out.on hb1)
 have N1:=hide (N0.out.below hb1)
 have RG1:=hide S1.out.rng
 have HH1:=hide (Nat.le_trans HH.out hb1.size)
 clear hb1 S0 N0 RG HH
 cases q1
 ·go_wp2
  go_ret
  exact ⟨rfl,S1.out.bl⟩
 ·go_wp2_with ((with_reducible refine zaF ?_ (.tmp 2) rfl w.heap.size 0 rfl x RG1.out HOB.out ?_);· rfl)
  refine (znr w1 lo hi x S1.out.m S1.out.sz HH1.out HFT.out N1.out).mono ?_
  rw [H2.out]
  rintro e w2 ⟨rfl,hb2⟩
  have S2:=hide (S1.out.on hb2)
  have RG2:=hide S2.out.rng
  clear hb2 S1 N1 RG1 HH1
  cases q2
  ·go_wp2
   go_ret
   exact ⟨rfl,S2.out.bl⟩
  ·go_wp2_with (refine zad ?_ (zcK (.tmp 12) rfl w.heap.size 0 rfl RG2.out HOB.out) ?_;· rfl)
   refine (zcQ w2 x.ns x.nb HOB.out).mono ?_
   rw [H3.out]
   rintro e w3 ⟨rfl,hb3⟩
   have S3:=hide (S2.out.on hb3)
   have c2:=S3.out.c2
   clear hb3 S2 RG2
   cases q3
   ·go_wp2
    go_ret
    exact ⟨rfl,S3.out.bl⟩
   ·cases b
    ·go_wp2
     go_ret
     exact ⟨by first | rfl | (cases decide (0<x.ns) <;> rfl),S3.out.bl⟩
    ·go_wp2
     go_ret
     exact ⟨by first | rfl | (cases decide (0<x.ns) <;> rfl),S3.out.bl⟩
end
section
open Go.RowKit
structure zaV (w:World) (R:Nat→Nat→Prop) (p:AtP):Prop where
 ob:p.ob.length=16
 path:∃ lo hi,R lo hi∧RowE sgL mS wS w lo hi p.pA p.pn p.path
 cl:∃ lo hi,R lo hi∧RowE adL mD wD w lo hi p.cA p.cn p.cl
 ex:∃ lo hi,R lo hi∧AtE w lo hi p.eA p.en p.ex
 tl:∃ lo hi,R lo hi∧RowE tnL mT wT w lo hi p.tA p.tn p.tl
 pc:p.pn≤p.pc
 cc:p.cn≤p.cc
 ec:p.en≤p.ec
 tc:p.tn≤p.tc
section
variable {w w':World} {R R':Nat→Nat→Prop} {p:AtP} {lo hi:Nat}
theorem zaV.keep (h:zaV w R p) (hk:∀ lo hi,R lo hi→∀ q:Addr,lo≤q.block→q.block<hi→w'.cell? q=w.cell? q):zaV w' R p:=by
 obtain ⟨h1,⟨a2,b2,r2,h2⟩,⟨a3,b3,r3,h3⟩,⟨a4,b4,r4,h4⟩,⟨a5,b5,r5,h5⟩,h6,h7,h8,h9⟩:=h
 exact ⟨h1,⟨a2,b2,r2,h2.keep mkS (hk _ _ r2)⟩,⟨a3,b3,r3,h3.keep mkD (hk _ _ r3)⟩,⟨a4,b4,r4,h4.1,h4.2.keep (hk _ _ r4)⟩,⟨a5,b5,r5,h5.keep mkT (hk _ _ r5)⟩,h6,h7,h8,h9⟩
theorem zaV.at_ (h:zaV w R p) (hR:∀ a b,R a b→lo≤a∧b≤hi):zaO w lo hi p:=by
 obtain ⟨h1,⟨a2,b2,r2,h2⟩,⟨a3,b3,r3,h3⟩,⟨a4,b4,r4,h4⟩,⟨a5,b5,r5,h5⟩,h6,h7,h8,h9⟩:=h
 exact ⟨h1,h2.more mmS (hR _ _ r2).1 (hR _ _ r2).2,h3.more mmD (hR _ _ r3).1 (hR _ _ r3).2,⟨h4.1,h4.2.more (hR _ _ r4).1 (hR _ _ r4).2⟩,h5.more mmT (hR _ _ r5).1 (hR _ _ r5).2,h6,h7,h8,h9⟩
theorem zaO.r (h:zaO w lo hi p) (hR:R lo hi):zaV w R p :=
 ⟨h.ob,⟨lo,hi,hR,h.path⟩,⟨lo,hi,hR,h.cl⟩,⟨lo,hi,hR,h.ex⟩,⟨lo,hi,hR,h.tl⟩,h.pc,h.cc,h.ec,h.tc⟩
theorem zaV.below {B:Nat} (h:zaV w R p) (hb:Below B w w') (hR:∀ a b,R a b→b≤B):zaV w' R p:=h.keep fun _ _ r _ _ hq=>hb.cell (Nat.lt_of_lt_of_le hq (hR _ _ r))
theorem zaV.grown {g:Nat} (h:zaV w R p) (hg:w.grownBy w' (some g)) (hR:∀ a b,R a b→b≤w.heap.size∧(g<a∨b≤g)):zaV w' R p :=
 h.keep fun _ _ r q h1 h2=>World.cell?_of_block (hg.block q.block (Nat.lt_of_lt_of_le h2 (hR _ _ r).1) (fun e=>by have:=(hR _ _ r).2;injection e;omega))
end
def rdgL (p:AtP) (rv:Value) (m:Nat):List Value:=attL p++[rv,.map (some m)]
def rdgC (p:AtP) (rv:Value) (m:Nat):Array Value:=(rdgL p rv m).toArray
theorem ziN {rv:Value} {w:World} {r m:Nat} {t:TypeId} {p:AtP} (h:Blk w r t (rdgC p rv m)):w.rangeAt r 0 (attL p):=fun j u hu=>by
 have h1:=zah (l:=rdgL p rv m) h j u (by unfold rdgL;rw [List.getElem?_append_left (List.getElem?_eq_some_iff.1 hu).1];exact hu)
 exact h1
theorem zj8 {rv:Value} {w:World} {r m:Nat} {t:TypeId} {p:AtP} (h:Blk w r t (rdgC p rv m)) (hl:p.ob.length=16):w.cell? ⟨r,24,none⟩=some rv:=by
 have h1:=zah (l:=rdgL p rv m) h 24 rv (by unfold rdgL;rw [List.getElem?_append_right (by rw [zba hl];decide),zba hl];rfl)
 exact h1
theorem zwf {rv:Value} {w:World} {r m:Nat} {t:TypeId} {p:AtP} (h:Blk w r t (rdgC p rv m)) (hl:p.ob.length=16):w.cell? ⟨r,25,none⟩=some (.map (some m)):=by
 have h1:=zah (l:=rdgL p rv m) h 25 (.map (some m)) (by unfold rdgL;rw [List.getElem?_append_right (by rw [zba hl];decide),zba hl];rfl)
 exact h1
theorem zbA {o:Oper} {a:Act} {w:World} (x y:Operand) (ho:o.op = .store 49 x y) (g n:Nat) (hx:a.eval x = .pointer (some ⟨g,n,none⟩)) {p:AtP} (hy:a.eval y = .agg (attC p)) (hl:p.ob.length=16)
  (ht:w.there g n 24):(execOp a.eval o).run Tryz.prog w = .ok .skip (w.setCells g n (attL p)):=by
 have hi:(Tryz.prog.info? 49).map (·.size)=some (attC p).size:=by rw [zbP hl];kernel_rfl
 have h:=run_storeVar_mid (P:=Tryz.prog) w g n 49 (attC p) (by rw [zbP hl];exact ht) hi (zlx p)
 unfold execOp
 simp only [ho,hx,hy,Instr.storeAt,Instr.sureAddr,Sem.run_bind,Sem.run_pure,Result.andThen_ok,h]
 rfl
theorem zsg {rv:Value} {w:World} {r m:Nat} {t:TypeId} {p:AtP} (h:Blk w r t (rdgC p rv m)) (hl:p.ob.length=16):w.there r 0 24:=fun j hj=>by
 refine ⟨?_,h.frozen _⟩
 rw [h.cell,Nat.zero_add]
 have:j<(rdgC p rv m).size:=by simp [rdgC,rdgL,zba hl];omega
 simp only [Array.getElem?_eq_getElem this,Option.isSome_some]
theorem zp9 {rv:Value} {w:World} {r m:Nat} {t:TypeId} {p p':AtP} (h:Blk w r t (rdgC p rv m)) (hl:p.ob.length=16) (hl':p'.ob.length=16):Blk (w.setCells r 0 (attL p')) r t (rdgC p' rv m) :=
 zbD (attL p') (attL p) [] (r:=[rv,.map (some m)]) w (by rw [zba hl,zba hl']) h
theorem zhD {rv:Value} {ops:Array Oper} {rest:List Oper} {o:Oper} {a:Act} {w:World} {Q:Exit→Act→World→Prop} (hgd:o.guard=none) (x y:Operand) (ho:o.op = .store 49 x y) (r:Nat) (hx:a.eval x = .pointer (some ⟨r,0,none⟩)) (p':AtP) (hy:a.eval y = .agg (attC p')) (hl':p'.ob.length=16)
  {t:TypeId} {p:AtP} {m:Nat} (h:Blk w r t (rdgC p rv m)) (hl:p.ob.length=16)
  (hk:∀ w',Blk w' r t (rdgC p' rv m)→w.grownBy w' (some r)→wpList Tryz.prog ops Q rest (a.put o.dst undef) w'):wpList Tryz.prog ops Q (o::rest) a w:=by
 refine wpList_plain hgd fun K hK'=>?_
 have hrun:=zbA x y ho r 0 hx hy hl' (zsg h hl)
 unfold Oper.wp
 rw [hrun]
 exact hK' _ _ (hk _ (zp9 h hl hl') (zai _ _ _ _ (zac w _)))
section
variable {P:Program} {ops:Array Oper} {Q:Exit→Act→World→Prop} {md:Region.Mode} {S S':World→Prop}
variable {fuel:Nat} {listed:Array Bool} {a:Act} {w:World} {i:Nat} {o:Oper}
theorem zeG {f:FuncId} {args:Array Value} {R:Ending→World→Prop} {j:Nat} {o':Oper} {v:Value} {w1:World} (hj:ops.toList[j]?=some o') (hi:ops.toList[i]?=some o) (hr:Region.ready md ops listed=[i,j])
  (hw':Region.wanted o' (yielded ops a.tmps)=true) (hw:Region.wanted o (yielded ops a.tmps)=true) (hc:Calls P f args w R) (hrun:∀ w,(execOp a.eval o).run P w = .ok (.enter f args) w)
  (hrun':(execOp a.eval o').run P w = .ok (.value v) w1) (hS:S w1)
  (h':S w1→wpAnyH P md ops Q S fuel (listed.setIfInBounds j true) (a.put o'.dst v) w1)
  (h:∀ e w',R e w'→∃ v,e = .returned v∧S w'∧(S w'→wpAnyH P md ops Q S fuel (listed.setIfInBounds i true) (a.put o.dst v) w')):wpAnyH P md ops Q S (fuel+1) listed a w:=by
 refine wpAnyH_ready hr (by simp) (AllReadyH.cons (zbq hi) (fun K hK=>?_) (AllReadyH.cons (zbq hj) (fun K hK=>?_) AllReadyH.nil))
 ·refine zit hc hw hrun (fun e w' hr=>?_)
  obtain ⟨v,he,hS,hk⟩:=h e w' hr
  exact ⟨v,he,hK.out _ _ hS hk⟩
 ·rw [if_pos hw']
  unfold Oper.wp
  rw [hrun']
  exact hK.out _ _ hS h'
end
section
variable {w x y:World} {r m lo vlo vhi:Nat} {p:AtP} {rv:Value} {q:RawP}
end
theorem zcH {w:World} {g:Nat} (h:Blk w g 49 zAtt):w.there g 0 24:=fun j hj=>by
 refine ⟨?_,h.frozen _⟩
 rw [h.cell,Nat.zero_add]
 have:j<(zAtt:Array Value).size:=hj
 simp only [Array.getElem?_eq_getElem this,Option.isSome_some]
theorem zck {w:World} {g:Nat} (h:Blk w g 49 zAtt) {p:AtP} (hl:p.ob.length=16):Blk (w.setCells g 0 (attL p)) g 49 (attC p):=by
 have hB:Blk w g 49 ([]++(attL zwB++[])).toArray:=by
  rw [List.nil_append,List.append_nil]
  rw [← ztV] at h
  exact h
 have h2:=zbD (attL p) (attL zwB) [] (r:=[]) _ (by rw [zba hl,zba rfl]) hB
 rw [List.nil_append,List.append_nil] at h2
 exact h2
end
section
open Go.RowKit
open Go.Maps (Keyed IsMap Tidy)
theorem zf3:Keyed Tryz.prog 3:=Maps.int_keyed Tryz.underlying3
theorem zjU (w:World):(zeroValue 3).run Tryz.prog w = .ok (.int .i64 0) w:=by kernel_rfl
abbrev Came (w:World) (m n:Nat) (D:DataW Unit):Prop:=w.ownsMap Tryz.prog 3 (plainElem Tryz.prog 3) m n D
theorem key9 {K:Int} (h:(Lit.int .i64 K).wf=true):keyOf Tryz.prog 3 (.int .i64 K)=some (.int .i64 K) :=
 Maps.keyOf_int_mk (P:=Tryz.prog) (k:=3) Tryz.underlying3 h
section
variable {w x y:World} {r m n:Nat} {D:DataW Unit} {p:AtP} {q:RawP}
end
open Go.RowKit
open Go.Maps (Keyed IsMap Tidy)
theorem ztG (m:Nat):Tryz.prog.built 191 [(0,.agg (attC zf0)),(2,.map (some m))]=some (rdgC zf0 (.slice none 0 0) m):=by kernel_rfl
theorem zhL {ops:Array Oper} {rest:List Oper} {o:Oper} {a:Act} {w:World} {Q:Exit→Act→World→Prop} (hw:Region.wanted o (yielded ops a.tmps)=true) (x y:Operand) (ho:o.op = .build 191 #[(0,x),(2,y)]) (m:Nat) (hx:a.eval x = .agg (attC zf0)) (hy:a.eval y = .map (some m))
  (hk:wpList Tryz.prog ops Q rest (a.put o.dst (.agg (rdgC zf0 (.slice none 0 0) m))) w):wpList Tryz.prog ops Q (o::rest) a w:=by
 refine zad hw ?_ hk
 unfold execOp
 simp only [ho,List.map_toArray,List.map_cons,List.map_nil,hx,hy,Sem.run_bind,run_build w _ _ _ (ztG m),Result.andThen_ok,Sem.run_pure]
theorem zml (m:Nat) {p:AtP} (h:p.ob.length=16):(rdgC p (.slice none 0 0) m).size=26:=by simp [rdgC,rdgL,zba h]
theorem zuT (m:Nat) (p:AtP):(rdgC p (.slice none 0 0) m).all (·.oneCell')=true:=by
 rw [Array.all_eq_true_iff_forall_mem]
 intro u hu
 simp only [rdgC,rdgL,List.mem_toArray,List.mem_append,List.mem_cons,List.not_mem_nil,or_false] at hu
 rcases hu with hu | rfl | rfl
 ·exact zlw p u hu
 ·rfl
 ·rfl
theorem zfK {ops:Array Oper} {rest:List Oper} {o:Oper} {a:Act} {w:World} {Q:Exit→Act→World→Prop} (hgd:o.guard=none) (x y:Operand) (ho:o.op = .store 191 x y) (g:Nat) (hx:a.eval x = .pointer (some ⟨g,0,none⟩)) (p:AtP) (m:Nat) (hy:a.eval y = .agg (rdgC p (.slice none 0 0) m)) (hl:p.ob.length=16) {t:TypeId} {old:Array Value} (h:Blk w g t old) (hold:old.size=26)
  (hk:∀ w',Blk w' g t (rdgC p (.slice none 0 0) m)→w.grownBy w' (some g)→wpList Tryz.prog ops Q rest (a.put o.dst undef) w'):wpList Tryz.prog ops Q (o::rest) a w :=
 wpList_store_row hgd 191 x y ho g (rdgC p (.slice none 0 0) m) hx hy t old h (by rw [zml m hl];kernel_rfl) (by rw [zml m hl,hold]) (zuT m p) (hk _ (h.setRow _) (zav _ _ _))
theorem zhW {fn:Func} {R:Ending→World→Prop} {a:Act} {w:World} {c q s:Tmp} {g:Nat} {t:TypeId} {p:AtP} {v u:Value} (hf:fn.results=#[.cell c 49,.tmp q,.tmp s])
  (hp:a.tmps.getD c undef = .pointer (some ⟨g,0,none⟩)) (hq:a.tmps.getD q undef=v) (hr:a.tmps.getD s undef=u) (h:Blk w g t (attC p)) (hl:p.ob.length=16) (hd:a.defers=[]) (hR:R (.returned (.tuple #[.agg (attC p),v,u])) w) :
  bodyPost Tryz.prog fn R .ret a w:=by
 refine bodyPost_ret (v:=.tuple #[.agg (attC p),v,u]) ?_ hd hR
 have hp':a.tmps[c]?.getD undef = .pointer (some ⟨g,0,none⟩):=by simpa using hp
 have hq':a.tmps[q]?.getD undef=v:=by simpa using hq
 have hr':a.tmps[s]?.getD undef=u:=by simpa using hr
 simp [results,hf,hp',hq',hr',asAddr,zk8 (zah (l:=attL p) h) hl]
section
variable {w x y:World} {r m lo2 cnt:Nat} {D:DataW Unit} {p:AtP}
end
open Go.RowKit
end
section
open Go.RowKit
set_option maxRecDepth 20000 in
set_option maxHeartbeats 2000000 in
theorem zpj (w:World) (lo g:Nat) (bs:List UInt8) (bad:Bool) (h:Rd w lo g bs bad) :
  Calls Tryz.prog 193 #[.pointer (some ⟨g,0,none⟩)] w fun e w'=>e = .returned (.agg (zas (ofS (zab bs 4)) (ofB (zab bs 4))))∧Rd w' lo g (zae bs 4) (bad||!zaY bs 4)∧w.grownBy w' (some g):=by
 have hgl:=h.lt
 have RES:=hide (Blk.new w 40 zAdr)
 have R0:Hid (Rd (w.alloc (.cells zAdr 40)) lo g bs bad):=hide (h.keep (zaP (zac w none) _) (by simp))
 have G0:Hid (w.grownBy (w.alloc (.cells zAdr 40)) (some g)):=hide (zaP (zac w _) _)
 have hq:w.heap.size+1≤(w.alloc (.cells zAdr 40)).heap.size:=by simp
 clear h
 go_enter Tryz.func193,Tryz.ntmps193
 go_wp2_with fail
 generalize hw0:w.alloc (.cells zAdr 40)=w0 at *
 clear hw0
 refine (zaR w0 lo g bs bad R0.out 4 (by decide)).mono ?_
 rintro e w1 ⟨v1,rfl,ho1,hr1,hg1⟩
 obtain ⟨A1,c1,rfl,_,_⟩:=zag ho1
 have O1:=hide ho1
 have R1:=hide hr1
 have B1:=hide (RES.out.grown hg1 (fun e=>by injection e;omega))
 have G1:=hide (zak G0.out hg1)
 have hq1:=Nat.le_trans hq hg1.size
 clear ho1 hr1 hg1 R0 RES G0 hq
 go_wp2_with fail
 refine (zgl w1 _ _ A1 _ c1 _ (At.own O1.out) (Nat.le_refl _)).mono ?_
 obtain ⟨S,hS⟩:∃ S,ofS (zab bs 4)=S:=⟨_,rfl⟩
 obtain ⟨BB,hB⟩:∃ BB,ofB (zab bs 4)=BB:=⟨_,rfl⟩
 have hbl:BB.length=16:=by rw [← hB];exact zbZ _
 rw [hS,hB]
 rintro e w2 ⟨rfl,hb2⟩
 have R2:=hide (R1.out.keep (zaK hb2 none) (by simp))
 have B2:=hide (B1.out.over hb2)
 have G2:=hide (zak G1.out (zaK hb2 _))
 have hq2:=Nat.le_trans hq1 hb2.size
 have NEW:=hide (Blk.new w2 40 zAdr)
 have HSS:=hide hS
 have HBB:=hide hB
 clear hb2 R1 B1 G1 O1 hS hB
 go_wp2_with (refine zaG rfl (.tmp 3) (.tmp 9) rfl w2.heap.size rfl rfl hbl NEW.out rfl ?_;intro w3 hb3 hg3;have B3:=hide hb3;have G3:=hide hg3;clear hb3 hg3;refine Hid.out ?_)
 refine hide ?_
 have hg23:w2.grownBy w3 none:=⟨G3.out.os,G3.out.tape,G3.out.output,Nat.le_trans (by simp) G3.out.size,fun k hk _=>(G3.out.block k (by simp;omega) (fun e=>by injection e;omega)).trans (Below.heap_alloc w2 _ k hk)⟩
 have R3:=hide (R2.out.keep hg23 (by simp))
 have C3:=hide (B2.out.grown hg23 (by simp))
 have G23:=hide (zak G2.out (show w2.grownBy w3 (some g) from ⟨hg23.os,hg23.tape,hg23.output,hg23.size,fun k hk _=>hg23.block k hk (by simp)⟩))
 clear hg23 G3 NEW R2 B2 G2
 go_wp2_with (first
  | (with_reducible refine zaI rfl (.tmp 3) rfl w2.heap.size rfl B3.out hbl ?_)
  | (refine zaG rfl (.tmp 2) (.tmp 11) rfl w.heap.size rfl rfl hbl C3.out rfl ?_;intro w4 hb4 hg4;have B4:=hide hb4;have G4:=hide hg4;clear hb4 hg4;refine Hid.out ?_))
 refine hide ?_
 go_wp2
 refine ziF (p:=2) rfl rfl B4.out hbl rfl ?_
 refine ⟨by rw [HSS.out,HBB.out],R3.out.keep G4.out (fun k hk=>by injection hk;exact .inr (by omega)),zmE G23.out G4.out (Nat.le_refl _)⟩
theorem zyv {w:World} {base n c:Nat} {A:Option Addr} {l:List B8} (hl:l.length=n) (h:w.ownsRow base 169 8 (.slice A n c) n (bvs (zbp l))):AtE w base w.heap.size A n l:=by
 refine ⟨hl,by rw [ze1,hl],fun hn=>?_⟩
 rcases h.2 with ⟨_,h2⟩ | ⟨g,cap,cur,h1,h2,h3,h4,h5,h6,h7⟩
 ·omega
 ·injection h1 with e1 e2 e3
  have hb:Blk w g 169 cur:=h3
  refine ⟨g,0,e1,h2,hb.lt,fun k u hu=>?_⟩
  rw [Nat.zero_add,hb.cell]
  have h8:(bvs (zbp l))[k]?=some (bv u):=by unfold bvs;rw [List.getElem?_map,hu];rfl
  rw [← h7,List.getElem?_take] at h8
  split at h8
  ·simpa using h8
  ·cases h8
end
section
open Go.RowKit
theorem zyw:(Tryz.prog.info? 40).map (fun i=>(i.zero.map (·.cells.size),i.size,i.bytes))=some (some 17,17,24):=by kernel_rfl
theorem zv1:∃ (i:TypeInfo) (z:Value),Tryz.prog.info? 40=some i∧i.zero=some z∧i.size=17∧i.bytes=24∧z.cells.size=17:=by
 have h:=zyw
 cases hq:Tryz.prog.info? 40 with
 | none=>rw [hq] at h;cases h
 | some i =>
  rw [hq] at h
  simp only [Option.map_some,Option.some.injEq,Prod.mk.injEq] at h
  cases hz:i.zero with
  | none=>rw [hz] at h;simp at h
  | some z =>
   rw [hz] at h
   simp at h
   exact ⟨i,z,rfl,hz,h.2.1,h.2.2,h.1⟩
theorem zwA:∃ z:Value,z.cells.size=17∧∀ w,(zeroValue 40).run Tryz.prog w = .ok z w:=⟨_,by kernel_rfl,Tryz.zeroValue40⟩
theorem zjJ {o:Oper} {a:Act} (w:World) (x:Operand) (ho:o.op = .buildSlice 45 1 #[(0,x)]) {s:Int} {b:List UInt8} (hl:b.length=16) (ex:a.eval x = .agg (zas s b)) :
  (execOp a.eval o).run Tryz.prog w = .ok (.value (.slice (some ⟨w.heap.size,0,none⟩) 1 1)) (w.alloc (.cells (zas s b) 40)):=by
 obtain ⟨z,hz,hz2⟩:=zwA
 have h:=zbx (P:=Tryz.prog) w 45 40 (zas s b) z Tryz.underlying45 (fun w=>Tryz.sizeOf40 w) hz2 hz (zcs s hl) (by decide) (by decide)
 unfold execOp
 simp only [ho,List.map_toArray,List.map_cons,List.map_nil,ex,Sem.run_bind,h,Result.andThen_ok,Sem.run_pure]
theorem zyx (x:Int × List UInt8):∀ u∈adL x,u.oneCell'=true:=fun u hu=>by
 simp only [adL,List.mem_cons] at hu
 rcases hu with rfl | hu
 ·rfl
 ·exact zbI _ u hu
theorem zju (w:World) (base:Nat) (ty:TypeId) (v:Value) (n:Nat) (xs:List (Int × List UInt8)) (hown:w.ownsRow base 40 17 v n (zaX adL xs)) (lo hi':Nat) (A:Option Addr) (m c:Nat) (news:List (Int × List UInt8)) (hs:∀ x∈news,x.2.length=16) (hr:AtG adL w lo hi' A m news)
  (hb:n+m≤1000000000000) (hbase:base≤w.heap.size) :
  ∃ v' w',(Builtin.append_ #[45,45] ty #[v,.slice A m c]).run Tryz.prog w = .ok v' w'∧w'.ownsRow base 40 17 v' (n+m) (zaX adL (xs++news))∧w.grownBy w' v.ownBlock∧(v'.ownBlock=v.ownBlock∨v'.ownBlock=some w.heap.size):=by
 obtain ⟨i,z,hi,hz,h1,h2,h3⟩:=zv1
 exact zbL (P:=Tryz.prog) w base 45 ty 40 i z 24 Tryz.underlying45 hi hz h1 h2 h3 (by decide) v n xs hown lo hi' A m c news hr (fun y hy=>zhe (hs y hy)) (fun y hy=>zyx y) (by omega) (by unfold maxLen;omega) hbase
theorem zeb {a b c:World} {g:Nat} {row:Option Nat} (h:a.grownBy b (some g)) (k:b.grownBy c row) (hr:∀ q,row=some q→a.heap.size≤q):a.grownBy c (some g) :=
 ⟨k.os.trans h.os,k.tape.trans h.tape,k.output.trans h.output,Nat.le_trans h.size k.size,fun i hi hne=>(k.block i (Nat.lt_of_lt_of_le hi h.size) (fun e=>by have:=hr _ e.symm;omega)).trans (h.block i hi hne)⟩
end
end Go.Proofs.YtjindligkhdddaaGreatDoor
