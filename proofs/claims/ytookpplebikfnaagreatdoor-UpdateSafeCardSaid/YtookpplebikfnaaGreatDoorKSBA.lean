/-
  Which updates are right: few, Right of package update, in whatever memory. The one condition beyond sizes that fit memory: the program's tables hold what its text lays.
  What said of numbers, and take of package attr, do, in whatever memory. No condition.
  What next and Read of package attr do with attributes of distinct kinds, in whatever memory. The one condition: the table of kinds holds what its text lays.
  What Read of package attr does with attributes of distinct kinds, in whatever memory. The one condition: the table of kinds holds what its text lays.
  One step of Read at an attribute that is as it is written: it is taken. The one condition: the table of kinds holds what its text lays.
  What a value says where it says an address or communities, in whatever memory. No condition.
  What a value says where it says a row of addresses, in whatever memory. No condition.
-/
import Derived.Maps.OwnOps
import Derived.Test.YtookpplebikfnaaGreatDoorKSAZ
set_option linter.unusedVariables false
set_option linter.unusedSimpArgs false
namespace Go.Proofs.YtookpplebikfnaaGreatDoor
section
set_option maxRecDepth 20000
set_option maxHeartbeats 2000000
open Go.RowKit
def zdA (u:Up):Bool:=zbd u.at_&&(fewT zcn u.re&&(fewT (zaY false) u.un&&(decide (0<u.re.length)||zb3 u.at_ zbY)))
def zss (F:FuncId) (ok:Tb→Bool):Prop:=∀ (w:World) (lo hi:Nat) (x:TbP),mTb w lo hi x→wTb x→hi≤w.heap.size→FitT x→zaL w→∀ g:Nat,Blk w g 63 #[.func (.func F) #[] #[]] →
 Calls Tryz.prog 50 #[.agg (tbC x),.pointer (some ⟨g,0,none⟩)] w fun e w'=>e = .returned (.bool (!ok x.tb))∧Below w.heap.size w w'
theorem zhQ:zss 25 (zcn):=by
 intro w lo hi x hm hw hh hfit hN g hb
 have S0:=hide (TbS.start hm hw hh)
 have N0:=hide (hN.below S0.out.bl)
 have c0:(w.alloc (.cells (tbC x) 53)).cell? ⟨g,0,none⟩=some (.func (.func 25) #[] #[]):=(hb.alloc _).cell 0
 have RG:=hide S0.out.rng
 have HOB:=hide (zdp hw)
 have HFT:=hide hfit
 have HH:=hide (show hi≤(w.alloc (.cells (tbC x) 53)).heap.size from Nat.le_trans hh S0.out.bl.size)
 obtain ⟨r,hr⟩:∃ r,zcn x.tb=r:=⟨_,rfl⟩
 have HR:=hide hr
 rw [hr]
 clear hm hb hr hw hfit hN
 go_enter Tryz.func50,Tryz.ntmps50
 go_wp2_with ((with_reducible refine zap ?_ (.tmp 2) rfl w.heap.size 0 rfl x RG.out HOB.out ?_);· rfl)
 refine (zmu _ lo hi x S0.out.m S0.out.sz HH.out HFT.out N0.out).mono ?_
 rw [HR.out]
 rintro e w1 ⟨rfl,hb1⟩
 have S1:=hide (S0.out.on hb1)
 go_wp2
 go_ret
 exact ⟨rfl,S1.out.bl⟩
theorem zkx:zss 26 (zaY false):=by
 intro w lo hi x hm hw hh hfit hN g hb
 have S0:=hide (TbS.start hm hw hh)
 have N0:=hide (hN.below S0.out.bl)
 have c0:(w.alloc (.cells (tbC x) 53)).cell? ⟨g,0,none⟩=some (.func (.func 26) #[] #[]):=(hb.alloc _).cell 0
 have RG:=hide S0.out.rng
 have HOB:=hide (zdp hw)
 have HFT:=hide hfit
 have HH:=hide (show hi≤(w.alloc (.cells (tbC x) 53)).heap.size from Nat.le_trans hh S0.out.bl.size)
 obtain ⟨r,hr⟩:∃ r,zaY false x.tb=r:=⟨_,rfl⟩
 have HR:=hide hr
 rw [hr]
 clear hm hb hr hw hfit hN
 go_enter Tryz.func50,Tryz.ntmps50
 go_wp2_with ((with_reducible refine zap ?_ (.tmp 2) rfl w.heap.size 0 rfl x RG.out HOB.out ?_);· rfl)
 refine (zms _ lo hi x S0.out.m S0.out.sz HH.out HFT.out N0.out).mono ?_
 rw [HR.out]
 rintro e w1 ⟨rfl,hb1⟩
 have S1:=hide (S0.out.on hb1)
 go_wp2
 go_ret
 exact ⟨rfl,S1.out.bl⟩
section
variable {F:FuncId} {ok:Tb→Bool}
set_option maxHeartbeats 1000000 in
theorem zpn (HF:zss F ok) (w:World) (lo hi:Nat) (A:Option Addr) (n c:Nat) (l:List TbP) (h:RowE tbL mTb wTb w lo hi A n l) (hh:hi≤w.heap.size) (hn:n≤1000000000000) (hfit:∀ x∈l,FitT x) (hN:zaL w) (g:Nat) (hb:Blk w g 63 #[.func (.func F) #[] #[]]) :
  Calls Tryz.prog 90 #[.slice A n c,.func (.func 50) #[] #[.pointer (some ⟨g,0,none⟩)]] w fun e w'=>∃ r:Int,e = .returned (.int .i64 r)∧decide (0≤r)=(!(l.map TbP.tb).all ok)∧Below w.heap.size w w':=by
 have H:=hide h
 have HL:=hide h.len
 have HB:=hide hb
 have HFT:=hide hfit
 have HNM:=hide hN
 have HJ:=hide HF
 clear h hb hfit hN HF
 go_enter Tryz.func90,Tryz.ntmps90
 go_wp2_with fail
 go_loopw [8] (fun i wr=>∃ k:Nat,k≤n∧i = .int .i64 k∧(∀ x∈l.take k,ok x.tb=true)∧Below w.heap.size w wr) (fun i _=>n-(intOf i).toNat)
 case atStart=>exact ⟨0,Nat.zero_le _,rfl,(fun x hx=>by simp at hx),Below.refl _ _⟩
 case round =>
  obtain ⟨k,hk,rfl,hall,hbel⟩:=hrel
  have HA:=hide hall
  have WB:=hide hbel
  clear hall hbel
  by_cases hlt:k<n
  ·have YR:=hide (H.out.below mkTb (WB.out.mono hh))
   obtain ⟨b,o,x,rfl,_,_,hx,hat⟩:=YR.out.row.at_ (sz:=21) (fun y hy=>ziY (YR.out.sz y hy)) hlt
   have hmem:=List.mem_of_getElem? hx
   have HM:=hide (YR.out.mem x hmem)
   have HWX:=hide (YR.out.sz x hmem)
   have HOB:=hide (zdp HWX.out)
   have XF:=hide (HFT.out x hmem)
   have N1:=hide (HNM.out.below WB.out)
   have HX:=hide hx
   have HAT:=hide hat
   have HG:=hide (HB.out.over WB.out)
   have hh1:=Nat.le_trans hh WB.out.size
   obtain ⟨r,hr⟩:∃ r,ok x.tb=r:=⟨_,rfl⟩
   have HR:=hide hr
   have hkl:((k:Nat):Int)<(n:Int):=by omega
   clear hx hat hmem hr YR
   go_wp2_with ((with_reducible refine zap ?_ (.tmp 14) rfl b (o+k*21) rfl x HAT.out HOB.out ?_);· rfl)
   refine (HJ.out wr lo hi x HM.out HWX.out hh1 XF.out N1.out g HG.out).mono ?_
   rw [HR.out]
   rintro e w1 ⟨rfl,hb1⟩
   have WB1:=hide (zaa WB.out hb1 (Nat.le_refl _))
   clear hb1
   cases r
   ·have HF:Hid ((l.map TbP.tb).all ok=false):=hide (List.all_eq_false.2 ⟨x.tb,List.mem_map.2 ⟨x,List.mem_of_getElem? HX.out,rfl⟩,by rw [HR.out];decide⟩)
    go_wp2_with fail
    go_ret
    exact ⟨_,rfl,by rw [HF.out];exact decide_eq_true (by omega),WB1.out⟩
   ·have HNX:Hid (∀ y∈l.take (k+1),ok y.tb=true):=hide (by
     intro y hy
     rw [List.take_add_one,HX.out] at hy
     rcases List.mem_append.1 hy with hy | hy
     ·exact HA.out y hy
     ·rw [show y=x by simpa using hy];exact HR.out)
    go_wp2_with fail
    go_roundw
    case rel=>exact ⟨k+1,by omega,by go_num,HNX.out,WB1.out⟩
    case measure=>simp [intOf];omega
  ·obtain rfl:k=n:=by omega
   have HF:Hid ((l.map TbP.tb).all ok=true):=hide (by
    rw [List.all_eq_true]
    intro y hy
    obtain ⟨x,hx,rfl⟩:=List.mem_map.1 hy
    exact HA.out x (by rw [List.take_of_length_le (by rw [HL.out];exact Nat.le_refl _)];exact hx))
   go_wp2
   go_ret
   exact ⟨_,rfl,by rw [HF.out];rfl,WB.out⟩
theorem zkK (HF:zss F ok) (w:World) (lo hi:Nat) (A:Option Addr) (n c:Nat) (l:List TbP) (h:RowE tbL mTb wTb w lo hi A n l) (hh:hi≤w.heap.size) (hn:n≤1000000000000) (hfit:∀ x∈l,FitT x) (hN:zaL w) (g:Nat) (hb:Blk w g 63 #[.func (.func F) #[] #[]]) :
  Calls Tryz.prog 51 #[.slice A n c,.func (.func 50) #[] #[.pointer (some ⟨g,0,none⟩)]] w fun e w'=>e = .returned (.bool (!(l.map TbP.tb).all ok))∧Below w.heap.size w w':=by
 have HC:=hide (zpn HF w lo hi A n c l h hh hn hfit hN g hb)
 obtain ⟨q,hq⟩:∃ q,(l.map TbP.tb).all ok=q:=⟨_,rfl⟩
 have HQ:=hide hq
 rw [hq]
 clear h hb hq HF hfit hN
 go_enter Tryz.func51,Tryz.ntmps51
 go_wp2_with fail
 refine HC.out.mono ?_
 rintro e w1 ⟨r,rfl,hr,hb1⟩
 rw [HQ.out] at hr
 cases q
 ·have h0:(0:Int)≤r:=of_decide_eq_true hr
  clear hr
  go_wp2
  go_ret
  exact ⟨rfl,hb1⟩
 ·have h0:¬ (0:Int)≤r:=of_decide_eq_false hr
  clear hr
  go_wp2
  go_ret
  exact ⟨by show Ending.returned (.bool (decide (0≤r)))=_;rw [decide_eq_false (by omega)];rfl,hb1⟩
theorem zex (HF:zss F ok) (w:World) (lo hi:Nat) (A:Option Addr) (n c:Nat) (l:List TbP) (h:RowE tbL mTb wTb w lo hi A n l) (hh:hi≤w.heap.size) (hfit:∀ x∈l,FitT x) (hN:zaL w) :
  Calls Tryz.prog 24 #[.slice A n c,.func (.func F) #[] #[]] w fun e w'=>e = .returned (.bool (fewT ok (l.map TbP.tb)))∧Below w.heap.size w w':=by
 unfold fewT
 rw [List.length_map,h.len]
 have H:Hid (RowE tbL mTb wTb (w.alloc (.cells #[.func (.func F) #[] #[]] 63)) lo hi A n l):=hide (h.keep mkTb fun p _ hp=>World.cell?_alloc_lt w _ p (by omega))
 have HB:Hid (Blk (w.alloc (.cells #[.func (.func F) #[] #[]] 63)) w.heap.size 63 #[.func (.func F) #[] #[]]):=hide (Blk.new w _ _)
 have B0:Hid (Below w.heap.size w (w.alloc (.cells #[.func (.func F) #[] #[]] 63))):=hide ((Below.refl _ _).alloc (Nat.le_refl _) _)
 have hh0:hi≤(w.alloc (.cells #[.func (.func F) #[] #[]] 63)).heap.size:=by simp;omega
 have N0:=hide (hN.below B0.out)
 have HFT:=hide hfit
 have HJ:=hide HF
 clear h hfit hN HF
 by_cases hn:n≤1
 ·have hnI:(n:Int)≤1:=by omega
  rw [decide_eq_true hn,Bool.true_and]
  obtain ⟨r,hr⟩:∃ r,(l.map TbP.tb).all ok=r:=⟨_,rfl⟩
  have HR:=hide hr
  rw [hr]
  clear hr
  go_enter Tryz.func24,Tryz.ntmps24
  go_wp2_with fail
  refine (zkK HJ.out _ lo hi A n c l H.out hh0 (by omega) HFT.out N0.out w.heap.size HB.out).mono ?_
  rw [HR.out]
  rintro e w1 ⟨rfl,hb1⟩
  have W1:=hide (zaa B0.out hb1 (by simp))
  clear hb1
  go_wp2
  go_ret
  exact ⟨by cases r <;> rfl,W1.out⟩
 ·have hnI:¬ (n:Int)≤1:=by omega
  rw [decide_eq_false hn,Bool.false_and]
  go_enter Tryz.func24,Tryz.ntmps24
  go_wp2
  go_ret
  exact ⟨rfl,B0.out⟩
end
structure FitU (u:UpP):Prop where
 at_:zbd u.at_.ats=true→Fit9 u.at_
 re:∀ x∈u.re,FitT x
 ne:∀ x∈u.ne,FitT x
structure UgS (w y:World) (lo hi:Nat) (u:UpP):Prop where
 s:UpS w y lo hi u
 n:zaL y
section
variable {w y z:World} {lo hi:Nat} {u:UpP}
theorem UgS.on (h:UgS w y lo hi u) (hb:Below y.heap.size y z):UgS w z lo hi u:=⟨h.s.on hb,h.n.below hb⟩
theorem UgS.drew (h:UgS w y lo hi u):UgS w y.drew lo hi u:=h.on (zai (Below.refl _ _))
end
theorem zs8 (w:World) (lo hi:Nat) (u:UpP) (h:UpAt w lo hi u) (hh:hi≤w.heap.size) (hfit:FitU u) (hN:zaL w) (H1:Hid (zbd u.at_.ats=false)) :
  Calls Tryz.prog 10 #[.agg (updC u)] w fun e w'=>e = .returned (.bool false)∧Below w.heap.size w w':=by
 have S0:=hide (UpS.start h hh)
 have Q0:Hid (UgS w (w.alloc (.cells (updC u) 33)) lo hi u):=hide ⟨S0.out,hN.below S0.out.bl⟩
 have HFT:=hide hfit
 have HOB:=hide h.ob
 clear h hfit hN S0
 go_enter Tryz.func10,Tryz.ntmps10
 go_wp2_with fail
 refine wp_region_held_drew (S:=fun z=>UgS w z lo hi u) (by kernel_rfl) Q0.out.drew (fun hHeld=>?_)
 refine rgT 0 ?_
 refine rgV 1 (.agg (attC u.at_)) (fun w' hSw=>za6 (.tmp 3) rfl w.heap.size 0 rfl hSw.s.ratt HOB.out) ?_
 refine zae (i:=2) rfl (by kernel_rfl) (by rfl) (zcH _ lo hi u.at_ hHeld.s.at_.at_ hHeld.s.here) (fun w=>by kernel_rfl) ?_
 rw [H1.out]
 rintro e w1 ⟨rfl,hb1⟩
 refine ⟨_,rfl,hHeld.on hb1,fun hHeld=>?_⟩
 refine rgN ?_
 refine rgT 3 ?_
 refine rgS 4 ?_
 refine rgS 5 ?_
 refine rgS 6 ?_
 refine rgT 7 ?_
 refine rgT 8 ?_
 refine rgS 9 ?_
 refine rgS 10 ?_
 refine rgS 11 ?_
 refine rgT 12 ?_
 refine rgT 13 ?_
 refine rgS 14 ?_
 refine rgS 15 ?_
 refine rgS 16 ?_
 refine rgS 17 ?_
 refine rgS 18 ?_
 refine rgS 19 ?_
 refine rgS 20 ?_
 refine rgS 21 ?_
 refine rgS 22 ?_
 refine rgS 23 ?_
 refine rgT 24 ?_
 refine rgT 25 ?_
 refine wpAnyH_done (by kernel_rfl) ?_ _
 go_wp2_with fail
 go_ret
 exact ⟨rfl,hHeld.s.bl⟩
theorem zs7 (w:World) (lo hi:Nat) (u:UpP) (h:UpAt w lo hi u) (hh:hi≤w.heap.size) (hfit:FitU u) (hN:zaL w) (H1:Hid (zbd u.at_.ats=true)) (H2:Hid (fewT zcn (u.re.map TbP.tb)=false)) :
  Calls Tryz.prog 10 #[.agg (updC u)] w fun e w'=>e = .returned (.bool false)∧Below w.heap.size w w':=by
 have S0:=hide (UpS.start h hh)
 have Q0:Hid (UgS w (w.alloc (.cells (updC u) 33)) lo hi u):=hide ⟨S0.out,hN.below S0.out.bl⟩
 have HFT:=hide hfit
 have HOB:=hide h.ob
 clear h hfit hN S0
 go_enter Tryz.func10,Tryz.ntmps10
 go_wp2_with fail
 refine wp_region_held_drew (S:=fun z=>UgS w z lo hi u) (by kernel_rfl) Q0.out.drew (fun hHeld=>?_)
 refine rgT 0 ?_
 refine rgV 1 (.agg (attC u.at_)) (fun w' hSw=>za6 (.tmp 3) rfl w.heap.size 0 rfl hSw.s.ratt HOB.out) ?_
 refine zae (i:=2) rfl (by kernel_rfl) (by rfl) (zcH _ lo hi u.at_ hHeld.s.at_.at_ hHeld.s.here) (fun w=>by kernel_rfl) ?_
 rw [H1.out]
 rintro e w1 ⟨rfl,hb1⟩
 refine ⟨_,rfl,hHeld.on hb1,fun hHeld=>?_⟩
 refine rgN ?_
 refine rgT 3 ?_
 refine rgT 4 ?_
 refine rgK 5 (fun w' hSw=>hSw.s.c24) ?_
 refine zae (i:=6) rfl (by kernel_rfl) (by rfl) (zex zhQ _ lo hi u.rA u.rn u.rc u.re hHeld.s.at_.re hHeld.s.here HFT.out.re hHeld.n) (fun w=>by kernel_rfl) ?_
 rw [H2.out]
 rintro e w2 ⟨rfl,hb2⟩
 refine ⟨_,rfl,hHeld.on hb2,fun hHeld=>?_⟩
 refine rgN ?_
 refine rgT 7 ?_
 refine rgT 8 ?_
 refine rgS 9 ?_
 refine rgS 10 ?_
 refine rgS 11 ?_
 refine rgT 12 ?_
 refine rgT 13 ?_
 refine rgS 14 ?_
 refine rgS 15 ?_
 refine rgS 16 ?_
 refine rgS 17 ?_
 refine rgS 18 ?_
 refine rgS 19 ?_
 refine rgS 20 ?_
 refine rgS 21 ?_
 refine rgS 22 ?_
 refine rgS 23 ?_
 refine rgT 24 ?_
 refine rgT 25 ?_
 refine wpAnyH_done (by kernel_rfl) ?_ _
 go_wp2_with fail
 go_ret
 exact ⟨rfl,hHeld.s.bl⟩
theorem zs6 (w:World) (lo hi:Nat) (u:UpP) (h:UpAt w lo hi u) (hh:hi≤w.heap.size) (hfit:FitU u) (hN:zaL w) (H1:Hid (zbd u.at_.ats=true)) (H2:Hid (fewT zcn (u.re.map TbP.tb)=true)) (H3:Hid (fewT (zaY false) (u.ne.map TbP.tb)=false)) :
  Calls Tryz.prog 10 #[.agg (updC u)] w fun e w'=>e = .returned (.bool false)∧Below w.heap.size w w':=by
 have S0:=hide (UpS.start h hh)
 have Q0:Hid (UgS w (w.alloc (.cells (updC u) 33)) lo hi u):=hide ⟨S0.out,hN.below S0.out.bl⟩
 have HFT:=hide hfit
 have HOB:=hide h.ob
 clear h hfit hN S0
 go_enter Tryz.func10,Tryz.ntmps10
 go_wp2_with fail
 refine wp_region_held_drew (S:=fun z=>UgS w z lo hi u) (by kernel_rfl) Q0.out.drew (fun hHeld=>?_)
 refine rgT 0 ?_
 refine rgV 1 (.agg (attC u.at_)) (fun w' hSw=>za6 (.tmp 3) rfl w.heap.size 0 rfl hSw.s.ratt HOB.out) ?_
 refine zae (i:=2) rfl (by kernel_rfl) (by rfl) (zcH _ lo hi u.at_ hHeld.s.at_.at_ hHeld.s.here) (fun w=>by kernel_rfl) ?_
 rw [H1.out]
 rintro e w1 ⟨rfl,hb1⟩
 refine ⟨_,rfl,hHeld.on hb1,fun hHeld=>?_⟩
 refine rgN ?_
 refine rgT 3 ?_
 refine rgT 4 ?_
 refine rgK 5 (fun w' hSw=>hSw.s.c24) ?_
 refine zae (i:=6) rfl (by kernel_rfl) (by rfl) (zex zhQ _ lo hi u.rA u.rn u.rc u.re hHeld.s.at_.re hHeld.s.here HFT.out.re hHeld.n) (fun w=>by kernel_rfl) ?_
 rw [H2.out]
 rintro e w2 ⟨rfl,hb2⟩
 refine ⟨_,rfl,hHeld.on hb2,fun hHeld=>?_⟩
 refine rgN ?_
 refine rgT 7 ?_
 refine rgT 8 ?_
 refine rgT 9 ?_
 refine rgK 10 (fun w' hSw=>hSw.s.c25) ?_
 refine zae (i:=11) rfl (by kernel_rfl) (by rfl) (zex zkx _ lo hi u.nA u.nn u.nc u.ne hHeld.s.at_.ne hHeld.s.here HFT.out.ne hHeld.n) (fun w=>by kernel_rfl) ?_
 rw [H3.out]
 rintro e w3 ⟨rfl,hb3⟩
 refine ⟨_,rfl,hHeld.on hb3,fun hHeld=>?_⟩
 refine rgN ?_
 refine rgT 12 ?_
 refine rgT 13 ?_
 refine rgS 14 ?_
 refine rgS 15 ?_
 refine rgS 16 ?_
 refine rgS 17 ?_
 refine rgS 18 ?_
 refine rgS 19 ?_
 refine rgS 20 ?_
 refine rgS 21 ?_
 refine rgS 22 ?_
 refine rgS 23 ?_
 refine rgT 24 ?_
 refine rgT 25 ?_
 refine wpAnyH_done (by kernel_rfl) ?_ _
 go_wp2_with fail
 go_ret
 exact ⟨rfl,hHeld.s.bl⟩
theorem zs5 (w:World) (lo hi:Nat) (u:UpP) (h:UpAt w lo hi u) (hh:hi≤w.heap.size) (hfit:FitU u) (hN:zaL w) (H1:Hid (zbd u.at_.ats=true)) (H2:Hid (fewT zcn (u.re.map TbP.tb)=true)) (H3:Hid (fewT (zaY false) (u.ne.map TbP.tb)=true)) (hr:(0:Int)<(u.rn:Int)) :
  Calls Tryz.prog 10 #[.agg (updC u)] w fun e w'=>e = .returned (.bool true)∧Below w.heap.size w w':=by
 have S0:=hide (UpS.start h hh)
 have Q0:Hid (UgS w (w.alloc (.cells (updC u) 33)) lo hi u):=hide ⟨S0.out,hN.below S0.out.bl⟩
 have HFT:=hide hfit
 have HOB:=hide h.ob
 clear h hfit hN S0
 go_enter Tryz.func10,Tryz.ntmps10
 go_wp2_with fail
 refine wp_region_held_drew (S:=fun z=>UgS w z lo hi u) (by kernel_rfl) Q0.out.drew (fun hHeld=>?_)
 refine rgT 0 ?_
 refine rgV 1 (.agg (attC u.at_)) (fun w' hSw=>za6 (.tmp 3) rfl w.heap.size 0 rfl hSw.s.ratt HOB.out) ?_
 refine zae (i:=2) rfl (by kernel_rfl) (by rfl) (zcH _ lo hi u.at_ hHeld.s.at_.at_ hHeld.s.here) (fun w=>by kernel_rfl) ?_
 rw [H1.out]
 rintro e w1 ⟨rfl,hb1⟩
 refine ⟨_,rfl,hHeld.on hb1,fun hHeld=>?_⟩
 refine rgN ?_
 refine rgT 3 ?_
 refine rgT 4 ?_
 refine rgK 5 (fun w' hSw=>hSw.s.c24) ?_
 refine zae (i:=6) rfl (by kernel_rfl) (by rfl) (zex zhQ _ lo hi u.rA u.rn u.rc u.re hHeld.s.at_.re hHeld.s.here HFT.out.re hHeld.n) (fun w=>by kernel_rfl) ?_
 rw [H2.out]
 rintro e w2 ⟨rfl,hb2⟩
 refine ⟨_,rfl,hHeld.on hb2,fun hHeld=>?_⟩
 refine rgN ?_
 refine rgT 7 ?_
 refine rgT 8 ?_
 refine rgT 9 ?_
 refine rgK 10 (fun w' hSw=>hSw.s.c25) ?_
 refine zae (i:=11) rfl (by kernel_rfl) (by rfl) (zex zkx _ lo hi u.nA u.nn u.nc u.ne hHeld.s.at_.ne hHeld.s.here HFT.out.ne hHeld.n) (fun w=>by kernel_rfl) ?_
 rw [H3.out]
 rintro e w3 ⟨rfl,hb3⟩
 refine ⟨_,rfl,hHeld.on hb3,fun hHeld=>?_⟩
 refine rgN ?_
 refine rgT 12 ?_
 refine rgT 13 ?_
 refine rgT 14 ?_
 refine rgK 15 (fun w' hSw=>hSw.s.c24) ?_
 refine rgT 16 ?_
 refine rgV 17 (.bool true) ?_ ?_
 ·(intro w' hSw;(try dsimp only at hSw);go_simp <;> first | rfl | omega)
 refine rgT 18 ?_
 refine rgS 19 ?_
 refine rgS 20 ?_
 refine rgS 21 ?_
 refine rgS 22 ?_
 refine rgT 23 ?_
 refine rgT 24 ?_
 refine rgT 25 ?_
 refine wpAnyH_done (by kernel_rfl) ?_ _
 go_wp2_with fail
 go_ret
 exact ⟨rfl,hHeld.s.bl⟩
theorem zs4 (w:World) (lo hi:Nat) (u:UpP) (h:UpAt w lo hi u) (hh:hi≤w.heap.size) (hfit:FitU u) (hN:zaL w) (H1:Hid (zbd u.at_.ats=true)) (H2:Hid (fewT zcn (u.re.map TbP.tb)=true)) (H3:Hid (fewT (zaY false) (u.ne.map TbP.tb)=true)) (hr:¬ (0:Int)<(u.rn:Int)) :
  Calls Tryz.prog 10 #[.agg (updC u)] w fun e w'=>e = .returned (.bool (zb3 u.at_.ats zbY))∧Below w.heap.size w w':=by
 have S0:=hide (UpS.start h hh)
 have Q0:Hid (UgS w (w.alloc (.cells (updC u) 33)) lo hi u):=hide ⟨S0.out,hN.below S0.out.bl⟩
 have HFT:=hide hfit
 have HOB:=hide h.ob
 clear h hfit hN S0
 go_enter Tryz.func10,Tryz.ntmps10
 go_wp2_with fail
 refine wp_region_held_drew (S:=fun z=>UgS w z lo hi u) (by kernel_rfl) Q0.out.drew (fun hHeld=>?_)
 refine rgT 0 ?_
 refine rgV 1 (.agg (attC u.at_)) (fun w' hSw=>za6 (.tmp 3) rfl w.heap.size 0 rfl hSw.s.ratt HOB.out) ?_
 refine zae (i:=2) rfl (by kernel_rfl) (by rfl) (zcH _ lo hi u.at_ hHeld.s.at_.at_ hHeld.s.here) (fun w=>by kernel_rfl) ?_
 rw [H1.out]
 rintro e w1 ⟨rfl,hb1⟩
 refine ⟨_,rfl,hHeld.on hb1,fun hHeld=>?_⟩
 refine rgN ?_
 refine rgT 3 ?_
 refine rgT 4 ?_
 refine rgK 5 (fun w' hSw=>hSw.s.c24) ?_
 refine zae (i:=6) rfl (by kernel_rfl) (by rfl) (zex zhQ _ lo hi u.rA u.rn u.rc u.re hHeld.s.at_.re hHeld.s.here HFT.out.re hHeld.n) (fun w=>by kernel_rfl) ?_
 rw [H2.out]
 rintro e w2 ⟨rfl,hb2⟩
 refine ⟨_,rfl,hHeld.on hb2,fun hHeld=>?_⟩
 refine rgN ?_
 refine rgT 7 ?_
 refine rgT 8 ?_
 refine rgT 9 ?_
 refine rgK 10 (fun w' hSw=>hSw.s.c25) ?_
 refine zae (i:=11) rfl (by kernel_rfl) (by rfl) (zex zkx _ lo hi u.nA u.nn u.nc u.ne hHeld.s.at_.ne hHeld.s.here HFT.out.ne hHeld.n) (fun w=>by kernel_rfl) ?_
 rw [H3.out]
 rintro e w3 ⟨rfl,hb3⟩
 refine ⟨_,rfl,hHeld.on hb3,fun hHeld=>?_⟩
 refine rgN ?_
 refine rgT 12 ?_
 refine rgT 13 ?_
 refine rgT 14 ?_
 refine rgK 15 (fun w' hSw=>hSw.s.c24) ?_
 refine rgT 16 ?_
 refine rgV 17 (.bool false) ?_ ?_
 ·(intro w' hSw;(try dsimp only at hSw);go_simp <;> first | rfl | omega)
 refine rgT 18 ?_
 refine rgT 19 ?_
 refine rgV 20 (.agg (attC u.at_)) (fun w' hSw=>za6 (.tmp 22) rfl w.heap.size 0 rfl hSw.s.ratt HOB.out) ?_
 refine zae (i:=21) rfl (by kernel_rfl) (by rfl) (zeu _) (fun w=>by kernel_rfl) ?_
 rintro e w4 ⟨rfl,hb4⟩
 refine ⟨_,rfl,hHeld.on hb4,fun hHeld=>?_⟩
 refine rgN ?_
 refine zae (i:=22) rfl (by kernel_rfl) (by rfl) (znx w4 lo hi w4.heap.size w4.heap.size u.at_ zdo hHeld.s.at_.at_ (zdn _ _ _) hHeld.s.here (Nat.le_refl _) (HFT.out.at_ H1.out)) (fun w=>by kernel_rfl) ?_
 rintro e w5 ⟨rfl,hb5⟩
 refine ⟨_,rfl,hHeld.on hb5,fun hHeld=>?_⟩
 refine rgN ?_
 refine rgT 23 ?_
 refine rgT 24 ?_
 refine rgT 25 ?_
 refine wpAnyH_done (by kernel_rfl) ?_ _
 go_wp2_with fail
 go_ret
 exact ⟨by rw [zko];cases zb3 u.at_.ats zbY <;> rfl,hHeld.s.bl⟩
theorem zd5 (w:World) (lo hi:Nat) (u:UpP) (h:UpAt w lo hi u) (hh:hi≤w.heap.size) (hfit:FitU u) (hN:zaL w) :
  Calls Tryz.prog 10 #[.agg (updC u)] w fun e w'=>e = .returned (.bool (zdA u.up))∧Below w.heap.size w w':=by
 have hl:(u.re.map TbP.tb).length=u.rn:=by rw [List.length_map,h.re.len]
 have e:zdA u.up=(zbd u.at_.ats&&(fewT zcn (u.re.map TbP.tb)&&(fewT (zaY false) (u.ne.map TbP.tb)&&(decide (0<u.rn)||zb3 u.at_.ats zbY)))):=by rw [← hl];rfl
 rw [e]
 cases h1:zbd u.at_.ats
 ·exact zs8 w lo hi u h hh hfit hN (hide h1)
 ·cases h2:fewT zcn (u.re.map TbP.tb)
  ·exact zs7 w lo hi u h hh hfit hN (hide h1) (hide h2)
  ·cases h3:fewT (zaY false) (u.ne.map TbP.tb)
   ·exact zs6 w lo hi u h hh hfit hN (hide h1) (hide h2) (hide h3)
   ·by_cases hr:0<u.rn
    ·rw [decide_eq_true hr]
     exact zs5 w lo hi u h hh hfit hN (hide h1) (hide h2) (hide h3) (by omega)
    ·rw [decide_eq_false hr]
     exact zs4 w lo hi u h hh hfit hN (hide h1) (hide h2) (hide h3) (by omega)
end
section
open Go.RowKit
theorem zar.over {w w':World} {lo:Nat} {p:AtP} (h:zar w lo w.heap.size p) (hb:Below w.heap.size w w'):zar w' lo w'.heap.size p:=(h.below hb).more (Nat.le_refl _) hb.size
structure zaV (w:World) (R:Nat→Nat→Prop) (p:AtP):Prop where
 ob:p.ob.length=16
 path:∃ lo hi,R lo hi∧RowE sgL mS wS w lo hi p.pA p.pn p.path
 cl:∃ lo hi,R lo hi∧RowE adL mD wD w lo hi p.cA p.cn p.cl
 ex:∃ lo hi,R lo hi∧AtE w lo hi p.eA p.en p.ex
 tl:∃ lo hi,R lo hi∧RowE tnL mT wT w lo hi p.tA p.tn p.tl
 pc:p.pn≤p.pc
 cc:p.cn≤p.cc
 ec:p.en≤p.ec
 tc:p.tn≤p.tc
section
variable {w w':World} {R R':Nat→Nat→Prop} {p:AtP} {lo hi:Nat}
theorem zaV.keep (h:zaV w R p) (hk:∀ lo hi,R lo hi→∀ q:Addr,lo≤q.block→q.block<hi→w'.cell? q=w.cell? q):zaV w' R p:=by
 obtain ⟨h1,⟨a2,b2,r2,h2⟩,⟨a3,b3,r3,h3⟩,⟨a4,b4,r4,h4⟩,⟨a5,b5,r5,h5⟩,h6,h7,h8,h9⟩:=h
 exact ⟨h1,⟨a2,b2,r2,h2.keep mkS (hk _ _ r2)⟩,⟨a3,b3,r3,h3.keep mkD (hk _ _ r3)⟩,⟨a4,b4,r4,h4.1,h4.2.keep (hk _ _ r4)⟩,⟨a5,b5,r5,h5.keep mkT (hk _ _ r5)⟩,h6,h7,h8,h9⟩
theorem zaV.at_ (h:zaV w R p) (hR:∀ a b,R a b→lo≤a∧b≤hi):zar w lo hi p:=by
 obtain ⟨h1,⟨a2,b2,r2,h2⟩,⟨a3,b3,r3,h3⟩,⟨a4,b4,r4,h4⟩,⟨a5,b5,r5,h5⟩,h6,h7,h8,h9⟩:=h
 exact ⟨h1,h2.more mmS (hR _ _ r2).1 (hR _ _ r2).2,h3.more mmD (hR _ _ r3).1 (hR _ _ r3).2,⟨h4.1,h4.2.more (hR _ _ r4).1 (hR _ _ r4).2⟩,h5.more mmT (hR _ _ r5).1 (hR _ _ r5).2,h6,h7,h8,h9⟩
theorem zar.r (h:zar w lo hi p) (hR:R lo hi):zaV w R p :=
 ⟨h.ob,⟨lo,hi,hR,h.path⟩,⟨lo,hi,hR,h.cl⟩,⟨lo,hi,hR,h.ex⟩,⟨lo,hi,hR,h.tl⟩,h.pc,h.cc,h.ec,h.tc⟩
theorem zaV.below {B:Nat} (h:zaV w R p) (hb:Below B w w') (hR:∀ a b,R a b→b≤B):zaV w' R p:=h.keep fun _ _ r _ _ hq=>hb.cell (Nat.lt_of_lt_of_le hq (hR _ _ r))
theorem zaV.grown {g:Nat} (h:zaV w R p) (hg:w.grownBy w' (some g)) (hR:∀ a b,R a b→b≤w.heap.size∧(g<a∨b≤g)):zaV w' R p :=
 h.keep fun _ _ r q h1 h2=>World.cell?_of_block (hg.block q.block (Nat.lt_of_lt_of_le h2 (hR _ _ r).1) (fun e=>by have:=(hR _ _ r).2;injection e;omega))
end
def rdgL (p:AtP) (rv:Value) (m:Nat):List Value:=attL p++[rv,.map (some m)]
def rdgC (p:AtP) (rv:Value) (m:Nat):Array Value:=(rdgL p rv m).toArray
theorem zis {rv:Value} {w:World} {r m:Nat} {t:TypeId} {p:AtP} (h:Blk w r t (rdgC p rv m)):w.rangeAt r 0 (attL p):=fun j u hu=>by
 have h1:=zak (l:=rdgL p rv m) h j u (by unfold rdgL;rw [List.getElem?_append_left (List.getElem?_eq_some_iff.1 hu).1];exact hu)
 exact h1
theorem zit {rv:Value} {w:World} {r m:Nat} {t:TypeId} {p:AtP} (h:Blk w r t (rdgC p rv m)) (hl:p.ob.length=16):w.cell? ⟨r,24,none⟩=some rv:=by
 have h1:=zak (l:=rdgL p rv m) h 24 rv (by unfold rdgL;rw [List.getElem?_append_right (by rw [zbf hl];decide),zbf hl];rfl)
 exact h1
theorem znQ {rv:Value} {w:World} {r m:Nat} {t:TypeId} {p:AtP} (h:Blk w r t (rdgC p rv m)) (hl:p.ob.length=16):w.cell? ⟨r,25,none⟩=some (.map (some m)):=by
 have h1:=zak (l:=rdgL p rv m) h 25 (.map (some m)) (by unfold rdgL;rw [List.getElem?_append_right (by rw [zbf hl];decide),zbf hl];rfl)
 exact h1
theorem zbC {o:Oper} {a:Act} {w:World} (x y:Operand) (ho:o.op = .store 30 x y) (g n:Nat) (hx:a.eval x = .pointer (some ⟨g,n,none⟩)) {p:AtP} (hy:a.eval y = .agg (attC p)) (hl:p.ob.length=16)
  (ht:w.there g n 24):(execOp a.eval o).run Tryz.prog w = .ok .skip (w.setCells g n (attL p)):=by
 have hi:(Tryz.prog.info? 30).map (·.size)=some (attC p).size:=by rw [zbR hl];kernel_rfl
 have h:=run_storeVar_mid (P:=Tryz.prog) w g n 30 (attC p) (by rw [zbR hl];exact ht) hi (zkP p)
 unfold execOp
 simp only [ho,hx,hy,Instr.storeAt,Instr.sureAddr,Sem.run_bind,Sem.run_pure,Result.andThen_ok,h]
 rfl
theorem zqQ {rv:Value} {w:World} {r m:Nat} {t:TypeId} {p:AtP} (h:Blk w r t (rdgC p rv m)) (hl:p.ob.length=16):w.there r 0 24:=fun j hj=>by
 refine ⟨?_,h.frozen _⟩
 rw [h.cell,Nat.zero_add]
 have:j<(rdgC p rv m).size:=by simp [rdgC,rdgL,zbf hl];omega
 simp only [Array.getElem?_eq_getElem this,Option.isSome_some]
theorem zoU {rv:Value} {w:World} {r m:Nat} {t:TypeId} {p p':AtP} (h:Blk w r t (rdgC p rv m)) (hl:p.ob.length=16) (hl':p'.ob.length=16):Blk (w.setCells r 0 (attL p')) r t (rdgC p' rv m) :=
 zcP (attL p') (attL p) [] (r:=[rv,.map (some m)]) w (by rw [zbf hl,zbf hl']) h
theorem zht {rv:Value} {ops:Array Oper} {rest:List Oper} {o:Oper} {a:Act} {w:World} {Q:Exit→Act→World→Prop} (hgd:o.guard=none) (x y:Operand) (ho:o.op = .store 30 x y) (r:Nat) (hx:a.eval x = .pointer (some ⟨r,0,none⟩)) (p':AtP) (hy:a.eval y = .agg (attC p')) (hl':p'.ob.length=16)
  {t:TypeId} {p:AtP} {m:Nat} (h:Blk w r t (rdgC p rv m)) (hl:p.ob.length=16)
  (hk:∀ w',Blk w' r t (rdgC p' rv m)→w.grownBy w' (some r)→wpList Tryz.prog ops Q rest (a.put o.dst undef) w'):wpList Tryz.prog ops Q (o::rest) a w:=by
 refine wpList_plain hgd fun K hK'=>?_
 have hrun:=zbC x y ho r 0 hx hy hl' (zqQ h hl)
 unfold Oper.wp
 rw [hrun]
 exact hK' _ _ (hk _ (zoU h hl hl') (zaq _ _ _ _ (zac w _)))
section
variable {P:Program} {ops:Array Oper} {Q:Exit→Act→World→Prop} {md:Region.Mode} {S S':World→Prop}
variable {fuel:Nat} {listed:Array Bool} {a:Act} {w:World} {i:Nat} {o:Oper}
theorem zeN {f:FuncId} {args:Array Value} {R:Ending→World→Prop} {j:Nat} {o':Oper} {v:Value} {w1:World} (hj:ops.toList[j]?=some o') (hi:ops.toList[i]?=some o) (hr:Region.ready md ops listed=[i,j])
  (hw':Region.wanted o' (yielded ops a.tmps)=true) (hw:Region.wanted o (yielded ops a.tmps)=true) (hc:Calls P f args w R) (hrun:∀ w,(execOp a.eval o).run P w = .ok (.enter f args) w)
  (hrun':(execOp a.eval o').run P w = .ok (.value v) w1) (hS:S w1)
  (h':S w1→wpAnyH P md ops Q S fuel (listed.setIfInBounds j true) (a.put o'.dst v) w1)
  (h:∀ e w',R e w'→∃ v,e = .returned v∧S w'∧(S w'→wpAnyH P md ops Q S fuel (listed.setIfInBounds i true) (a.put o.dst v) w')):wpAnyH P md ops Q S (fuel+1) listed a w:=by
 refine wpAnyH_ready hr (by simp) (AllReadyH.cons (zbL hi) (fun K hK=>?_) (AllReadyH.cons (zbL hj) (fun K hK=>?_) AllReadyH.nil))
 ·refine zh9 hc hw hrun (fun e w' hr=>?_)
  obtain ⟨v,he,hS,hk⟩:=h e w' hr
  exact ⟨v,he,hK.out _ _ hS hk⟩
 ·rw [if_pos hw']
  unfold Oper.wp
  rw [hrun']
  exact hK.out _ _ hS h'
end
structure ATkS (w x:World) (r m lo vlo vhi:Nat) (p:AtP) (rv:Value) (q:RawP):Prop where
 rd:Blk x r 118 (rdgC p rv m)
 bx:Blk x w.heap.size 89 (rawC q)
 v:At x vlo vhi q.A q.n q.v
 at_:zar x lo w.heap.size p
 bl:Below w.heap.size w x
 hv:vhi≤w.heap.size
 hr:r<w.heap.size
section
variable {w x y:World} {r m lo vlo vhi:Nat} {p:AtP} {rv:Value} {q:RawP}
theorem ATkS.on (h:ATkS w x r m lo vlo vhi p rv q) (hb:Below x.heap.size x y):ATkS w y r m lo vlo vhi p rv q :=
 ⟨h.rd.over hb,h.bx.over hb,h.v.below (hb.mono (Nat.le_trans h.hv h.bl.size)),h.at_.below (hb.mono h.bl.size),zaa h.bl hb (Nat.le_refl _),h.hv,h.hr⟩
theorem ATkS.drew (h:ATkS w x r m lo vlo vhi p rv q):ATkS w x.drew r m lo vlo vhi p rv q:=⟨h.rd.drew,h.bx.drew,h.v.drew,h.at_.drew,zai h.bl,h.hv,h.hr⟩
theorem ATkS.new (h:ATkS w x r m lo vlo vhi p rv q) (ob:Obj):ATkS w (x.alloc ob) r m lo vlo vhi p rv q:=h.on ((Below.refl _ _).alloc (Nat.le_refl _) _)
theorem ATkS.grown (h:ATkS w x r m lo vlo vhi p rv q) {g:Nat} (hg:x.grownBy y (some g)) (hn:w.heap.size<g):ATkS w y r m lo vlo vhi p rv q :=
 ⟨h.rd.grown hg (fun e=>by injection e;have:=h.hr;omega),h.bx.grown hg (fun e=>by injection e;omega),h.v.grown hg (Nat.le_trans h.hv h.bl.size) (fun k hk=>by injection hk;have:=h.hv;omega),h.at_.grown hg h.bl.size (fun k hk=>by injection hk;omega),h.bl.grown hg h.bl.size (fun k hk=>by injection hk;omega),h.hv,h.hr⟩
theorem ATkS.all (h:ATkS w x r m lo vlo vhi p rv q) (hl:lo≤w.heap.size):zar x lo x.heap.size p:=h.at_.more (Nat.le_refl _) h.bl.size
end
theorem zcJ {w:World} {g:Nat} (h:Blk w g 30 zAtt):w.there g 0 24:=fun j hj=>by
 refine ⟨?_,h.frozen _⟩
 rw [h.cell,Nat.zero_add]
 have:j<(zAtt:Array Value).size:=hj
 simp only [Array.getElem?_eq_getElem this,Option.isSome_some]
theorem zcr {w:World} {g:Nat} (h:Blk w g 30 zAtt) {p:AtP} (hl:p.ob.length=16):Blk (w.setCells g 0 (attL p)) g 30 (attC p):=by
 have hB:Blk w g 30 ([]++(attL zuF++[])).toArray:=by
  rw [List.nil_append,List.append_nil]
  rw [← zsc] at h
  exact h
 have h2:=zcP (attL p) (attL zuF) [] (r:=[]) _ (by rw [zbf hl,zbf rfl]) hB
 rw [List.nil_append,List.append_nil] at h2
 exact h2
end
section
open Go.RowKit
open Go.Maps (Keyed IsMap Tidy)
theorem zfZ:Keyed Tryz.prog 3:=Maps.int_keyed Tryz.underlying3
theorem zjr (w:World):(zeroValue 3).run Tryz.prog w = .ok (.int .i64 0) w:=by kernel_rfl
abbrev Came (w:World) (m n:Nat) (D:DataW Unit):Prop:=w.ownsMap Tryz.prog 3 (plainElem Tryz.prog 3) m n D
theorem key9 {K:Int} (h:(Lit.int .i64 K).wf=true):keyOf Tryz.prog 3 (.int .i64 K)=some (.int .i64 K) :=
 Maps.keyOf_int_mk (P:=Tryz.prog) (k:=3) Tryz.underlying3 h
structure NxS (w x:World) (r m n:Nat) (D:DataW Unit) (p:AtP) (q:RawP):Prop where
 rd:Blk x r 118 (rdgC p (.slice none 0 0) m)
 bx:Blk x w.heap.size 89 (rawC q)
 mp:Came x m n D
 bl:Below w.heap.size w x
 ob:p.ob.length=16
section
variable {w x y:World} {r m n:Nat} {D:DataW Unit} {p:AtP} {q:RawP}
theorem NxS.c25 (h:NxS w x r m n D p q):x.cell? ⟨r,25,none⟩=some (.map (some m)):=znQ h.rd h.ob
theorem NxS.drew (h:NxS w x r m n D p q):NxS w x.drew r m n D p q:=⟨h.rd.drew,h.bx.drew,h.mp.drew,zai h.bl,h.ob⟩
end
open Go.RowKit
open Go.Maps (Keyed IsMap Tidy)
theorem zr7 (m:Nat):Tryz.prog.built 118 [(0,.agg (attC zdo)),(2,.map (some m))]=some (rdgC zdo (.slice none 0 0) m):=by kernel_rfl
theorem zhB {ops:Array Oper} {rest:List Oper} {o:Oper} {a:Act} {w:World} {Q:Exit→Act→World→Prop} (hw:Region.wanted o (yielded ops a.tmps)=true) (x y:Operand) (ho:o.op = .build 118 #[(0,x),(2,y)]) (m:Nat) (hx:a.eval x = .agg (attC zdo)) (hy:a.eval y = .map (some m))
  (hk:wpList Tryz.prog ops Q rest (a.put o.dst (.agg (rdgC zdo (.slice none 0 0) m))) w):wpList Tryz.prog ops Q (o::rest) a w:=by
 refine zam hw ?_ hk
 unfold execOp
 simp only [ho,List.map_toArray,List.map_cons,List.map_nil,hx,hy,Sem.run_bind,run_build w _ _ _ (zr7 m),Result.andThen_ok,Sem.run_pure]
theorem zlr (m:Nat) {p:AtP} (h:p.ob.length=16):(rdgC p (.slice none 0 0) m).size=26:=by simp [rdgC,rdgL,zbf h]
theorem ztf (m:Nat) (p:AtP):(rdgC p (.slice none 0 0) m).all (·.oneCell')=true:=by
 rw [Array.all_eq_true_iff_forall_mem]
 intro u hu
 simp only [rdgC,rdgL,List.mem_toArray,List.mem_append,List.mem_cons,List.not_mem_nil,or_false] at hu
 rcases hu with hu | rfl | rfl
 ·exact zkO p u hu
 ·rfl
 ·rfl
theorem zfL {ops:Array Oper} {rest:List Oper} {o:Oper} {a:Act} {w:World} {Q:Exit→Act→World→Prop} (hgd:o.guard=none) (x y:Operand) (ho:o.op = .store 118 x y) (g:Nat) (hx:a.eval x = .pointer (some ⟨g,0,none⟩)) (p:AtP) (m:Nat) (hy:a.eval y = .agg (rdgC p (.slice none 0 0) m)) (hl:p.ob.length=16) {t:TypeId} {old:Array Value} (h:Blk w g t old) (hold:old.size=26)
  (hk:∀ w',Blk w' g t (rdgC p (.slice none 0 0) m)→w.grownBy w' (some g)→wpList Tryz.prog ops Q rest (a.put o.dst undef) w'):wpList Tryz.prog ops Q (o::rest) a w :=
 wpList_store_row hgd 118 x y ho g (rdgC p (.slice none 0 0) m) hx hy t old h (by rw [zlr m hl];kernel_rfl) (by rw [zlr m hl,hold]) (ztf m p) (hk _ (h.setRow _) (zaK _ _ _))
theorem zhL {fn:Func} {R:Ending→World→Prop} {a:Act} {w:World} {c q s:Tmp} {g:Nat} {t:TypeId} {p:AtP} {v u:Value} (hf:fn.results=#[.cell c 30,.tmp q,.tmp s])
  (hp:a.tmps.getD c undef = .pointer (some ⟨g,0,none⟩)) (hq:a.tmps.getD q undef=v) (hr:a.tmps.getD s undef=u) (h:Blk w g t (attC p)) (hl:p.ob.length=16) (hd:a.defers=[]) (hR:R (.returned (.tuple #[.agg (attC p),v,u])) w) :
  bodyPost Tryz.prog fn R .ret a w:=by
 refine bodyPost_ret (v:=.tuple #[.agg (attC p),v,u]) ?_ hd hR
 have hp':a.tmps[c]?.getD undef = .pointer (some ⟨g,0,none⟩):=by simpa using hp
 have hq':a.tmps[q]?.getD undef=v:=by simpa using hq
 have hr':a.tmps[s]?.getD undef=u:=by simpa using hr
 simp [results,hf,hp',hq',hr',asAddr,zku (zak (l:=attL p) h) hl]
def zuB (D:DataW Unit) (K:Int):Prop:=Maps.has D (.int .i64 K)=false
theorem zuB.at_ {D:DataW Unit} {K:Int} (h:zuB D K):D.atKey (.int .i64 K) (.lit (.int .i64 0)) = .lit (.int .i64 0):=Maps.atKey_of_not_has h _
structure RdS (w x:World) (r m lo2 cnt:Nat) (D:DataW Unit) (p:AtP):Prop where
 rd:Blk x r 118 (rdgC p (.slice none 0 0) m)
 mp:Came x m cnt D
 at_:zar x lo2 x.heap.size p
 res:Blk x w.heap.size 30 zAtt
 bl:Below w.heap.size w x
 hlo:lo2≤x.heap.size
 hr:r<lo2
 hm:m<r
 hq:w.heap.size<m
section
variable {w x y:World} {r m lo2 cnt:Nat} {D:DataW Unit} {p:AtP}
theorem RdS.on (h:RdS w x r m lo2 cnt D p) (hb:Below x.heap.size x y):RdS w y r m lo2 cnt D p :=
 ⟨h.rd.over hb,h.mp.kept (zaU hb none) (by simp),h.at_.over hb,h.res.over hb,zaa h.bl hb (Nat.le_refl _),Nat.le_trans h.hlo hb.size,h.hr,h.hm,h.hq⟩
theorem RdS.c25 (h:RdS w x r m lo2 cnt D p):x.cell? ⟨r,25,none⟩=some (.map (some m)):=znQ h.rd h.at_.ob
theorem RdS.c24 (h:RdS w x r m lo2 cnt D p):x.cell? ⟨r,24,none⟩=some (.slice none 0 0):=zit h.rd h.at_.ob
end
open Go.RowKit
end
section
open Go.RowKit
set_option maxRecDepth 20000 in
set_option maxHeartbeats 2000000 in
theorem zn3 (w:World) (lo g:Nat) (bs:List UInt8) (bad:Bool) (h:Rd w lo g bs bad) :
  Calls Tryz.prog 159 #[.pointer (some ⟨g,0,none⟩)] w fun e w'=>e = .returned (.agg (zan (ofS (zab bs 4)) (ofB (zab bs 4))))∧Rd w' lo g (zaf bs 4) (bad||!zbJ bs 4)∧w.grownBy w' (some g):=by
 have hgl:=h.lt
 have RES:=hide (Blk.new w 25 zAdr)
 have R0:Hid (Rd (w.alloc (.cells zAdr 25)) lo g bs bad):=hide (h.keep (zaN (zac w none) _) (by simp))
 have G0:Hid (w.grownBy (w.alloc (.cells zAdr 25)) (some g)):=hide (zaN (zac w _) _)
 have hq:w.heap.size+1≤(w.alloc (.cells zAdr 25)).heap.size:=by simp
 clear h
 go_enter Tryz.func159,Tryz.ntmps159
 go_wp2_with fail
 generalize hw0:w.alloc (.cells zAdr 25)=w0 at *
 clear hw0
 refine (za0 w0 lo g bs bad R0.out 4 (by decide)).mono ?_
 rintro e w1 ⟨v1,rfl,ho1,hr1,hg1⟩
 obtain ⟨A1,c1,rfl,_,_⟩:=zad ho1
 have O1:=hide ho1
 have R1:=hide hr1
 have B1:=hide (RES.out.grown hg1 (fun e=>by injection e;omega))
 have G1:=hide (zal G0.out hg1)
 have hq1:=Nat.le_trans hq hg1.size
 clear ho1 hr1 hg1 R0 RES G0 hq
 go_wp2_with fail
 refine (zhk w1 _ _ A1 _ c1 _ (At.own O1.out) (Nat.le_refl _)).mono ?_
 obtain ⟨S,hS⟩:∃ S,ofS (zab bs 4)=S:=⟨_,rfl⟩
 obtain ⟨BB,hB⟩:∃ BB,ofB (zab bs 4)=BB:=⟨_,rfl⟩
 have hbl:BB.length=16:=by rw [← hB];exact zbX _
 rw [hS,hB]
 rintro e w2 ⟨rfl,hb2⟩
 have R2:=hide (R1.out.keep (zaU hb2 none) (by simp))
 have B2:=hide (B1.out.over hb2)
 have G2:=hide (zal G1.out (zaU hb2 _))
 have hq2:=Nat.le_trans hq1 hb2.size
 have NEW:=hide (Blk.new w2 25 zAdr)
 have HSS:=hide hS
 have HBB:=hide hB
 clear hb2 R1 B1 G1 O1 hS hB
 go_wp2_with (refine zaB rfl (.tmp 3) (.tmp 9) rfl w2.heap.size rfl rfl hbl NEW.out rfl ?_;intro w3 hb3 hg3;have B3:=hide hb3;have G3:=hide hg3;clear hb3 hg3;refine Hid.out ?_)
 refine hide ?_
 have hg23:w2.grownBy w3 none:=⟨G3.out.os,G3.out.tape,G3.out.output,Nat.le_trans (by simp) G3.out.size,fun k hk _=>(G3.out.block k (by simp;omega) (fun e=>by injection e;omega)).trans (Below.heap_alloc w2 _ k hk)⟩
 have R3:=hide (R2.out.keep hg23 (by simp))
 have C3:=hide (B2.out.grown hg23 (by simp))
 have G23:=hide (zal G2.out (show w2.grownBy w3 (some g) from ⟨hg23.os,hg23.tape,hg23.output,hg23.size,fun k hk _=>hg23.block k hk (by simp)⟩))
 clear hg23 G3 NEW R2 B2 G2
 go_wp2_with (first
  | (with_reducible refine zaE rfl (.tmp 3) rfl w2.heap.size rfl B3.out hbl ?_)
  | (refine zaB rfl (.tmp 2) (.tmp 11) rfl w.heap.size rfl rfl hbl C3.out rfl ?_;intro w4 hb4 hg4;have B4:=hide hb4;have G4:=hide hg4;clear hb4 hg4;refine Hid.out ?_))
 refine hide ?_
 go_wp2
 refine zlo (p:=2) rfl rfl B4.out hbl rfl ?_
 refine ⟨by rw [HSS.out,HBB.out],R3.out.keep G4.out (fun k hk=>by injection hk;exact .inr (by omega)),zlE G23.out G4.out (Nat.le_refl _)⟩
theorem zwh {w:World} {base n c:Nat} {A:Option Addr} {l:List B8} (hl:l.length=n) (h:w.ownsRow base 105 8 (.slice A n c) n (bvs (zbe l))):AtE w base w.heap.size A n l:=by
 refine ⟨hl,by rw [zcZ,hl],fun hn=>?_⟩
 rcases h.2 with ⟨_,h2⟩ | ⟨g,cap,cur,h1,h2,h3,h4,h5,h6,h7⟩
 ·omega
 ·injection h1 with e1 e2 e3
  have hb:Blk w g 105 cur:=h3
  refine ⟨g,0,e1,h2,hb.lt,fun k u hu=>?_⟩
  rw [Nat.zero_add,hb.cell]
  have h8:(bvs (zbe l))[k]?=some (bv u):=by unfold bvs;rw [List.getElem?_map,hu];rfl
  rw [← h7,List.getElem?_take] at h8
  split at h8
  ·simpa using h8
  ·cases h8
end
section
open Go.RowKit
theorem zwj:(Tryz.prog.info? 25).map (fun i=>(i.zero.map (·.cells.size),i.size,i.bytes))=some (some 17,17,24):=by kernel_rfl
theorem zub:∃ (i:TypeInfo) (z:Value),Tryz.prog.info? 25=some i∧i.zero=some z∧i.size=17∧i.bytes=24∧z.cells.size=17:=by
 have h:=zwj
 cases hq:Tryz.prog.info? 25 with
 | none=>rw [hq] at h;cases h
 | some i =>
  rw [hq] at h
  simp only [Option.map_some,Option.some.injEq,Prod.mk.injEq] at h
  cases hz:i.zero with
  | none=>rw [hz] at h;simp at h
  | some z =>
   rw [hz] at h
   simp at h
   exact ⟨i,z,rfl,hz,h.2.1,h.2.2,h.1⟩
theorem zuE:∃ z:Value,z.cells.size=17∧∀ w,(zeroValue 25).run Tryz.prog w = .ok z w:=⟨_,by kernel_rfl,Tryz.zeroValue25⟩
theorem zje {o:Oper} {a:Act} (w:World) (x:Operand) (ho:o.op = .buildSlice 26 1 #[(0,x)]) {s:Int} {b:List UInt8} (hl:b.length=16) (ex:a.eval x = .agg (zan s b)) :
  (execOp a.eval o).run Tryz.prog w = .ok (.value (.slice (some ⟨w.heap.size,0,none⟩) 1 1)) (w.alloc (.cells (zan s b) 25)):=by
 obtain ⟨z,hz,hz2⟩:=zuE
 have h:=zb4 (P:=Tryz.prog) w 26 25 (zan s b) z Tryz.underlying26 (fun w=>Tryz.sizeOf25 w) hz2 hz (zcu s hl) (by decide) (by decide)
 unfold execOp
 simp only [ho,List.map_toArray,List.map_cons,List.map_nil,ex,Sem.run_bind,h,Result.andThen_ok,Sem.run_pure]
theorem zwk (x:Int × List UInt8):∀ u∈adL x,u.oneCell'=true:=fun u hu=>by
 simp only [adL,List.mem_cons] at hu
 rcases hu with rfl | hu
 ·rfl
 ·exact zb1 _ u hu
theorem zi3 (w:World) (base:Nat) (ty:TypeId) (v:Value) (n:Nat) (xs:List (Int × List UInt8)) (hown:w.ownsRow base 25 17 v n (za5 adL xs)) (lo hi':Nat) (A:Option Addr) (m c:Nat) (news:List (Int × List UInt8)) (hs:∀ x∈news,x.2.length=16) (hr:AtG adL w lo hi' A m news)
  (hb:n+m≤1000000000000) (hbase:base≤w.heap.size) :
  ∃ v' w',(Builtin.append_ #[26,26] ty #[v,.slice A m c]).run Tryz.prog w = .ok v' w'∧w'.ownsRow base 25 17 v' (n+m) (za5 adL (xs++news))∧w.grownBy w' v.ownBlock∧(v'.ownBlock=v.ownBlock∨v'.ownBlock=some w.heap.size):=by
 obtain ⟨i,z,hi,hz,h1,h2,h3⟩:=zub
 exact zcm (P:=Tryz.prog) w base 26 ty 25 i z 24 Tryz.underlying26 hi hz h1 h2 h3 (by decide) v n xs hown lo hi' A m c news hr (fun y hy=>zeF (hs y hy)) (fun y hy=>zwk y) (by omega) (by unfold maxLen;omega) hbase
theorem zeb {a b c:World} {g:Nat} {row:Option Nat} (h:a.grownBy b (some g)) (k:b.grownBy c row) (hr:∀ q,row=some q→a.heap.size≤q):a.grownBy c (some g) :=
 ⟨k.os.trans h.os,k.tape.trans h.tape,k.output.trans h.output,Nat.le_trans h.size k.size,fun i hi hne=>(k.block i (Nat.lt_of_lt_of_le hi h.size) (fun e=>by have:=hr _ e.symm;omega)).trans (h.block i hi hne)⟩
end
end Go.Proofs.YtookpplebikfnaaGreatDoor
