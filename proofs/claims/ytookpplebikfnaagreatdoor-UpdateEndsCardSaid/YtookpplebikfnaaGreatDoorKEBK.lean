/-
  Which updates are right: few, Right of package update, in whatever memory. The one condition beyond sizes that fit memory: the program's tables hold what its text lays.
  The value of a table that is right: numberOf, aheadOf, nextBytes, value of package update, in whatever memory. The one condition beyond sizes that fit memory: the program's tables hold what its text lays.
-/
import Derived.Test.YtookpplebikfnaaGreatDoorKEBJ
set_option linter.unusedVariables false
set_option linter.unusedSimpArgs false
namespace Go.Proofs.YtookpplebikfnaaGreatDoor
section
set_option maxRecDepth 20000
set_option maxHeartbeats 2000000
open Go.RowKit
def zcv (u:Up):Bool:=zbK u.at_&&(fewT zc8 u.re&&(fewT (zaY false) u.un&&(decide (0<u.re.length)||zdk u.at_ zbV)))
def zs4 (F:FuncId) (ok:Tb→Bool):Prop:=∀ (w:World) (lo hi:Nat) (x:TbP),mTb w lo hi x→wTb x→hi≤w.heap.size→FitT x→zaQ w→∀ g:Nat,Blk w g 63 #[.func (.func F) #[] #[]] →
 Calls Tryz.prog 50 #[.agg (tbC x),.pointer (some ⟨g,0,none⟩)] w fun e w'=>e = .returned (.bool (!ok x.tb))∧Below w.heap.size w w'
theorem zh3:zs4 25 (zc8):=by
 intro w lo hi x hm hw hh hfit hN g hb
 have S0:=hide (TbS.start hm hw hh)
 have N0:=hide (hN.below S0.out.bl)
 have c0:(w.alloc (.cells (tbC x) 53)).cell? ⟨g,0,none⟩=some (.func (.func 25) #[] #[]):=(hb.alloc _).cell 0
 have RG:=hide S0.out.rng
 have HOB:=hide (zdB hw)
 have HFT:=hide hfit
 have HH:=hide (show hi≤(w.alloc (.cells (tbC x) 53)).heap.size from Nat.le_trans hh S0.out.bl.size)
 obtain ⟨r,hr⟩:∃ r,zc8 x.tb=r:=⟨_,rfl⟩
 have HR:=hide hr
 rw [hr]
 clear hm hb hr hw hfit hN
 go_enter Tryz.func50,Tryz.ntmps50
 go_wp2_with ((with_reducible refine zao ?_ (.tmp 2) rfl w.heap.size 0 rfl x RG.out HOB.out ?_);· rfl)
 refine (zmX _ lo hi x S0.out.m S0.out.sz HH.out HFT.out N0.out).mono ?_
 rw [HR.out]
 rintro e w1 ⟨rfl,hb1⟩
 have S1:=hide (S0.out.on hb1)
 go_wp2
 go_ret
 exact ⟨rfl,S1.out.bl⟩
theorem zkT:zs4 26 (zaY false):=by
 intro w lo hi x hm hw hh hfit hN g hb
 have S0:=hide (TbS.start hm hw hh)
 have N0:=hide (hN.below S0.out.bl)
 have c0:(w.alloc (.cells (tbC x) 53)).cell? ⟨g,0,none⟩=some (.func (.func 26) #[] #[]):=(hb.alloc _).cell 0
 have RG:=hide S0.out.rng
 have HOB:=hide (zdB hw)
 have HFT:=hide hfit
 have HH:=hide (show hi≤(w.alloc (.cells (tbC x) 53)).heap.size from Nat.le_trans hh S0.out.bl.size)
 obtain ⟨r,hr⟩:∃ r,zaY false x.tb=r:=⟨_,rfl⟩
 have HR:=hide hr
 rw [hr]
 clear hm hb hr hw hfit hN
 go_enter Tryz.func50,Tryz.ntmps50
 go_wp2_with ((with_reducible refine zao ?_ (.tmp 2) rfl w.heap.size 0 rfl x RG.out HOB.out ?_);· rfl)
 refine (zmV _ lo hi x S0.out.m S0.out.sz HH.out HFT.out N0.out).mono ?_
 rw [HR.out]
 rintro e w1 ⟨rfl,hb1⟩
 have S1:=hide (S0.out.on hb1)
 go_wp2
 go_ret
 exact ⟨rfl,S1.out.bl⟩
section
variable {F:FuncId} {ok:Tb→Bool}
set_option maxHeartbeats 1000000 in
theorem zpP (HF:zs4 F ok) (w:World) (lo hi:Nat) (A:Option Addr) (n c:Nat) (l:List TbP) (h:RowE tbL mTb wTb w lo hi A n l) (hh:hi≤w.heap.size) (hn:n≤1000000000000) (hfit:∀ x∈l,FitT x) (hN:zaQ w) (g:Nat) (hb:Blk w g 63 #[.func (.func F) #[] #[]]) :
  Calls Tryz.prog 90 #[.slice A n c,.func (.func 50) #[] #[.pointer (some ⟨g,0,none⟩)]] w fun e w'=>∃ r:Int,e = .returned (.int .i64 r)∧decide (0≤r)=(!(l.map TbP.tb).all ok)∧Below w.heap.size w w':=by
 have H:=hide h
 have HL:=hide h.len
 have HB:=hide hb
 have HFT:=hide hfit
 have HNM:=hide hN
 have HJ:=hide HF
 clear h hb hfit hN HF
 go_enter Tryz.func90,Tryz.ntmps90
 go_wp2_with fail
 go_loopw [8] (fun i wr=>∃ k:Nat,k≤n∧i = .int .i64 k∧(∀ x∈l.take k,ok x.tb=true)∧Below w.heap.size w wr) (fun i _=>n-(intOf i).toNat)
 case atStart=>exact ⟨0,Nat.zero_le _,rfl,(fun x hx=>by simp at hx),Below.refl _ _⟩
 case round =>
  obtain ⟨k,hk,rfl,hall,hbel⟩:=hrel
  have HA:=hide hall
  have WB:=hide hbel
  clear hall hbel
  by_cases hlt:k<n
  ·have YR:=hide (H.out.below mkTb (WB.out.mono hh))
   obtain ⟨b,o,x,rfl,_,_,hx,hat⟩:=YR.out.row.at_ (sz:=21) (fun y hy=>zkm (YR.out.sz y hy)) hlt
   have hmem:=List.mem_of_getElem? hx
   have HM:=hide (YR.out.mem x hmem)
   have HWX:=hide (YR.out.sz x hmem)
   have HOB:=hide (zdB HWX.out)
   have XF:=hide (HFT.out x hmem)
   have N1:=hide (HNM.out.below WB.out)
   have HX:=hide hx
   have HAT:=hide hat
   have HG:=hide (HB.out.over WB.out)
   have hh1:=Nat.le_trans hh WB.out.size
   obtain ⟨r,hr⟩:∃ r,ok x.tb=r:=⟨_,rfl⟩
   have HR:=hide hr
   have hkl:((k:Nat):Int)<(n:Int):=by omega
   clear hx hat hmem hr YR
   go_wp2_with ((with_reducible refine zao ?_ (.tmp 14) rfl b (o+k*21) rfl x HAT.out HOB.out ?_);· rfl)
   refine (HJ.out wr lo hi x HM.out HWX.out hh1 XF.out N1.out g HG.out).mono ?_
   rw [HR.out]
   rintro e w1 ⟨rfl,hb1⟩
   have WB1:=hide (zaa WB.out hb1 (Nat.le_refl _))
   clear hb1
   cases r
   ·have HF:Hid ((l.map TbP.tb).all ok=false):=hide (List.all_eq_false.2 ⟨x.tb,List.mem_map.2 ⟨x,List.mem_of_getElem? HX.out,rfl⟩,by rw [HR.out];decide⟩)
    go_wp2_with fail
    go_ret
    exact ⟨_,rfl,by rw [HF.out];exact decide_eq_true (by omega),WB1.out⟩
   ·have HNX:Hid (∀ y∈l.take (k+1),ok y.tb=true):=hide (by
     intro y hy
     rw [List.take_add_one,HX.out] at hy
     rcases List.mem_append.1 hy with hy | hy
     ·exact HA.out y hy
     ·rw [show y=x by simpa using hy];exact HR.out)
    go_wp2_with fail
    go_roundw
    case rel=>exact ⟨k+1,by omega,by go_num,HNX.out,WB1.out⟩
    case measure=>simp [intOf];omega
  ·obtain rfl:k=n:=by omega
   have HF:Hid ((l.map TbP.tb).all ok=true):=hide (by
    rw [List.all_eq_true]
    intro y hy
    obtain ⟨x,hx,rfl⟩:=List.mem_map.1 hy
    exact HA.out x (by rw [List.take_of_length_le (by rw [HL.out];exact Nat.le_refl _)];exact hx))
   go_wp2
   go_ret
   exact ⟨_,rfl,by rw [HF.out];rfl,WB.out⟩
theorem zk8 (HF:zs4 F ok) (w:World) (lo hi:Nat) (A:Option Addr) (n c:Nat) (l:List TbP) (h:RowE tbL mTb wTb w lo hi A n l) (hh:hi≤w.heap.size) (hn:n≤1000000000000) (hfit:∀ x∈l,FitT x) (hN:zaQ w) (g:Nat) (hb:Blk w g 63 #[.func (.func F) #[] #[]]) :
  Calls Tryz.prog 51 #[.slice A n c,.func (.func 50) #[] #[.pointer (some ⟨g,0,none⟩)]] w fun e w'=>e = .returned (.bool (!(l.map TbP.tb).all ok))∧Below w.heap.size w w':=by
 have HC:=hide (zpP HF w lo hi A n c l h hh hn hfit hN g hb)
 obtain ⟨q,hq⟩:∃ q,(l.map TbP.tb).all ok=q:=⟨_,rfl⟩
 have HQ:=hide hq
 rw [hq]
 clear h hb hq HF hfit hN
 go_enter Tryz.func51,Tryz.ntmps51
 go_wp2_with fail
 refine HC.out.mono ?_
 rintro e w1 ⟨r,rfl,hr,hb1⟩
 rw [HQ.out] at hr
 cases q
 ·have h0:(0:Int)≤r:=of_decide_eq_true hr
  clear hr
  go_wp2
  go_ret
  exact ⟨rfl,hb1⟩
 ·have h0:¬ (0:Int)≤r:=of_decide_eq_false hr
  clear hr
  go_wp2
  go_ret
  exact ⟨by show Ending.returned (.bool (decide (0≤r)))=_;rw [decide_eq_false (by omega)];rfl,hb1⟩
theorem zeG (HF:zs4 F ok) (w:World) (lo hi:Nat) (A:Option Addr) (n c:Nat) (l:List TbP) (h:RowE tbL mTb wTb w lo hi A n l) (hh:hi≤w.heap.size) (hfit:∀ x∈l,FitT x) (hN:zaQ w) :
  Calls Tryz.prog 24 #[.slice A n c,.func (.func F) #[] #[]] w fun e w'=>e = .returned (.bool (fewT ok (l.map TbP.tb)))∧Below w.heap.size w w':=by
 unfold fewT
 rw [List.length_map,h.len]
 have H:Hid (RowE tbL mTb wTb (w.alloc (.cells #[.func (.func F) #[] #[]] 63)) lo hi A n l):=hide (h.keep mkTb fun p _ hp=>World.cell?_alloc_lt w _ p (by omega))
 have HB:Hid (Blk (w.alloc (.cells #[.func (.func F) #[] #[]] 63)) w.heap.size 63 #[.func (.func F) #[] #[]]):=hide (Blk.new w _ _)
 have B0:Hid (Below w.heap.size w (w.alloc (.cells #[.func (.func F) #[] #[]] 63))):=hide ((Below.refl _ _).alloc (Nat.le_refl _) _)
 have hh0:hi≤(w.alloc (.cells #[.func (.func F) #[] #[]] 63)).heap.size:=by simp;omega
 have N0:=hide (hN.below B0.out)
 have HFT:=hide hfit
 have HJ:=hide HF
 clear h hfit hN HF
 by_cases hn:n≤1
 ·have hnI:(n:Int)≤1:=by omega
  rw [decide_eq_true hn,Bool.true_and]
  obtain ⟨r,hr⟩:∃ r,(l.map TbP.tb).all ok=r:=⟨_,rfl⟩
  have HR:=hide hr
  rw [hr]
  clear hr
  go_enter Tryz.func24,Tryz.ntmps24
  go_wp2_with fail
  refine (zk8 HJ.out _ lo hi A n c l H.out hh0 (by omega) HFT.out N0.out w.heap.size HB.out).mono ?_
  rw [HR.out]
  rintro e w1 ⟨rfl,hb1⟩
  have W1:=hide (zaa B0.out hb1 (by simp))
  clear hb1
  go_wp2
  go_ret
  exact ⟨by cases r <;> rfl,W1.out⟩
 ·have hnI:¬ (n:Int)≤1:=by omega
  rw [decide_eq_false hn,Bool.false_and]
  go_enter Tryz.func24,Tryz.ntmps24
  go_wp2
  go_ret
  exact ⟨rfl,B0.out⟩
end
structure FitU (u:UpP):Prop where
 at_:zbK u.at_.ats=true→Fit9 u.at_
 re:∀ x∈u.re,FitT x
 ne:∀ x∈u.ne,FitT x
structure UgS (w y:World) (lo hi:Nat) (u:UpP):Prop where
 s:UpS w y lo hi u
 n:zaQ y
section
variable {w y z:World} {lo hi:Nat} {u:UpP}
theorem UgS.on (h:UgS w y lo hi u) (hb:Below y.heap.size y z):UgS w z lo hi u:=⟨h.s.on hb,h.n.below hb⟩
theorem UgS.drew (h:UgS w y lo hi u):UgS w y.drew lo hi u:=h.on (zam (Below.refl _ _))
end
theorem ztH (w:World) (lo hi:Nat) (u:UpP) (h:UpAt w lo hi u) (hh:hi≤w.heap.size) (hfit:FitU u) (hN:zaQ w) (H1:Hid (zbK u.at_.ats=false)) :
  Calls Tryz.prog 10 #[.agg (updC u)] w fun e w'=>e = .returned (.bool false)∧Below w.heap.size w w':=by
 have S0:=hide (UpS.start h hh)
 have Q0:Hid (UgS w (w.alloc (.cells (updC u) 33)) lo hi u):=hide ⟨S0.out,hN.below S0.out.bl⟩
 have HFT:=hide hfit
 have HOB:=hide h.ob
 clear h hfit hN S0
 go_enter Tryz.func10,Tryz.ntmps10
 go_wp2_with fail
 refine wp_region_held_drew (S:=fun z=>UgS w z lo hi u) (by kernel_rfl) Q0.out.drew (fun hHeld=>?_)
 refine rgT 0 ?_
 refine rgV 1 (.agg (attC u.at_)) (fun w' hSw=>za8 (.tmp 3) rfl w.heap.size 0 rfl hSw.s.ratt HOB.out) ?_
 refine zaf (i:=2) rfl (by kernel_rfl) (by rfl) (zcQ _ lo hi u.at_ hHeld.s.at_.at_ hHeld.s.here) (fun w=>by kernel_rfl) ?_
 rw [H1.out]
 rintro e w1 ⟨rfl,hb1⟩
 refine ⟨_,rfl,hHeld.on hb1,fun hHeld=>?_⟩
 refine rgN ?_
 refine rgT 3 ?_
 refine rgS 4 ?_
 refine rgS 5 ?_
 refine rgS 6 ?_
 refine rgT 7 ?_
 refine rgT 8 ?_
 refine rgS 9 ?_
 refine rgS 10 ?_
 refine rgS 11 ?_
 refine rgT 12 ?_
 refine rgT 13 ?_
 refine rgS 14 ?_
 refine rgS 15 ?_
 refine rgS 16 ?_
 refine rgS 17 ?_
 refine rgS 18 ?_
 refine rgS 19 ?_
 refine rgS 20 ?_
 refine rgS 21 ?_
 refine rgS 22 ?_
 refine rgS 23 ?_
 refine rgT 24 ?_
 refine rgT 25 ?_
 refine wpAnyH_done (by kernel_rfl) ?_ _
 go_wp2_with fail
 go_ret
 exact ⟨rfl,hHeld.s.bl⟩
theorem ztG (w:World) (lo hi:Nat) (u:UpP) (h:UpAt w lo hi u) (hh:hi≤w.heap.size) (hfit:FitU u) (hN:zaQ w) (H1:Hid (zbK u.at_.ats=true)) (H2:Hid (fewT zc8 (u.re.map TbP.tb)=false)) :
  Calls Tryz.prog 10 #[.agg (updC u)] w fun e w'=>e = .returned (.bool false)∧Below w.heap.size w w':=by
 have S0:=hide (UpS.start h hh)
 have Q0:Hid (UgS w (w.alloc (.cells (updC u) 33)) lo hi u):=hide ⟨S0.out,hN.below S0.out.bl⟩
 have HFT:=hide hfit
 have HOB:=hide h.ob
 clear h hfit hN S0
 go_enter Tryz.func10,Tryz.ntmps10
 go_wp2_with fail
 refine wp_region_held_drew (S:=fun z=>UgS w z lo hi u) (by kernel_rfl) Q0.out.drew (fun hHeld=>?_)
 refine rgT 0 ?_
 refine rgV 1 (.agg (attC u.at_)) (fun w' hSw=>za8 (.tmp 3) rfl w.heap.size 0 rfl hSw.s.ratt HOB.out) ?_
 refine zaf (i:=2) rfl (by kernel_rfl) (by rfl) (zcQ _ lo hi u.at_ hHeld.s.at_.at_ hHeld.s.here) (fun w=>by kernel_rfl) ?_
 rw [H1.out]
 rintro e w1 ⟨rfl,hb1⟩
 refine ⟨_,rfl,hHeld.on hb1,fun hHeld=>?_⟩
 refine rgN ?_
 refine rgT 3 ?_
 refine rgT 4 ?_
 refine rgK 5 (fun w' hSw=>hSw.s.c24) ?_
 refine zaf (i:=6) rfl (by kernel_rfl) (by rfl) (zeG zh3 _ lo hi u.rA u.rn u.rc u.re hHeld.s.at_.re hHeld.s.here HFT.out.re hHeld.n) (fun w=>by kernel_rfl) ?_
 rw [H2.out]
 rintro e w2 ⟨rfl,hb2⟩
 refine ⟨_,rfl,hHeld.on hb2,fun hHeld=>?_⟩
 refine rgN ?_
 refine rgT 7 ?_
 refine rgT 8 ?_
 refine rgS 9 ?_
 refine rgS 10 ?_
 refine rgS 11 ?_
 refine rgT 12 ?_
 refine rgT 13 ?_
 refine rgS 14 ?_
 refine rgS 15 ?_
 refine rgS 16 ?_
 refine rgS 17 ?_
 refine rgS 18 ?_
 refine rgS 19 ?_
 refine rgS 20 ?_
 refine rgS 21 ?_
 refine rgS 22 ?_
 refine rgS 23 ?_
 refine rgT 24 ?_
 refine rgT 25 ?_
 refine wpAnyH_done (by kernel_rfl) ?_ _
 go_wp2_with fail
 go_ret
 exact ⟨rfl,hHeld.s.bl⟩
theorem ztF (w:World) (lo hi:Nat) (u:UpP) (h:UpAt w lo hi u) (hh:hi≤w.heap.size) (hfit:FitU u) (hN:zaQ w) (H1:Hid (zbK u.at_.ats=true)) (H2:Hid (fewT zc8 (u.re.map TbP.tb)=true)) (H3:Hid (fewT (zaY false) (u.ne.map TbP.tb)=false)) :
  Calls Tryz.prog 10 #[.agg (updC u)] w fun e w'=>e = .returned (.bool false)∧Below w.heap.size w w':=by
 have S0:=hide (UpS.start h hh)
 have Q0:Hid (UgS w (w.alloc (.cells (updC u) 33)) lo hi u):=hide ⟨S0.out,hN.below S0.out.bl⟩
 have HFT:=hide hfit
 have HOB:=hide h.ob
 clear h hfit hN S0
 go_enter Tryz.func10,Tryz.ntmps10
 go_wp2_with fail
 refine wp_region_held_drew (S:=fun z=>UgS w z lo hi u) (by kernel_rfl) Q0.out.drew (fun hHeld=>?_)
 refine rgT 0 ?_
 refine rgV 1 (.agg (attC u.at_)) (fun w' hSw=>za8 (.tmp 3) rfl w.heap.size 0 rfl hSw.s.ratt HOB.out) ?_
 refine zaf (i:=2) rfl (by kernel_rfl) (by rfl) (zcQ _ lo hi u.at_ hHeld.s.at_.at_ hHeld.s.here) (fun w=>by kernel_rfl) ?_
 rw [H1.out]
 rintro e w1 ⟨rfl,hb1⟩
 refine ⟨_,rfl,hHeld.on hb1,fun hHeld=>?_⟩
 refine rgN ?_
 refine rgT 3 ?_
 refine rgT 4 ?_
 refine rgK 5 (fun w' hSw=>hSw.s.c24) ?_
 refine zaf (i:=6) rfl (by kernel_rfl) (by rfl) (zeG zh3 _ lo hi u.rA u.rn u.rc u.re hHeld.s.at_.re hHeld.s.here HFT.out.re hHeld.n) (fun w=>by kernel_rfl) ?_
 rw [H2.out]
 rintro e w2 ⟨rfl,hb2⟩
 refine ⟨_,rfl,hHeld.on hb2,fun hHeld=>?_⟩
 refine rgN ?_
 refine rgT 7 ?_
 refine rgT 8 ?_
 refine rgT 9 ?_
 refine rgK 10 (fun w' hSw=>hSw.s.c25) ?_
 refine zaf (i:=11) rfl (by kernel_rfl) (by rfl) (zeG zkT _ lo hi u.nA u.nn u.nc u.ne hHeld.s.at_.ne hHeld.s.here HFT.out.ne hHeld.n) (fun w=>by kernel_rfl) ?_
 rw [H3.out]
 rintro e w3 ⟨rfl,hb3⟩
 refine ⟨_,rfl,hHeld.on hb3,fun hHeld=>?_⟩
 refine rgN ?_
 refine rgT 12 ?_
 refine rgT 13 ?_
 refine rgS 14 ?_
 refine rgS 15 ?_
 refine rgS 16 ?_
 refine rgS 17 ?_
 refine rgS 18 ?_
 refine rgS 19 ?_
 refine rgS 20 ?_
 refine rgS 21 ?_
 refine rgS 22 ?_
 refine rgS 23 ?_
 refine rgT 24 ?_
 refine rgT 25 ?_
 refine wpAnyH_done (by kernel_rfl) ?_ _
 go_wp2_with fail
 go_ret
 exact ⟨rfl,hHeld.s.bl⟩
theorem ztE (w:World) (lo hi:Nat) (u:UpP) (h:UpAt w lo hi u) (hh:hi≤w.heap.size) (hfit:FitU u) (hN:zaQ w) (H1:Hid (zbK u.at_.ats=true)) (H2:Hid (fewT zc8 (u.re.map TbP.tb)=true)) (H3:Hid (fewT (zaY false) (u.ne.map TbP.tb)=true)) (hr:(0:Int)<(u.rn:Int)) :
  Calls Tryz.prog 10 #[.agg (updC u)] w fun e w'=>e = .returned (.bool true)∧Below w.heap.size w w':=by
 have S0:=hide (UpS.start h hh)
 have Q0:Hid (UgS w (w.alloc (.cells (updC u) 33)) lo hi u):=hide ⟨S0.out,hN.below S0.out.bl⟩
 have HFT:=hide hfit
 have HOB:=hide h.ob
 clear h hfit hN S0
 go_enter Tryz.func10,Tryz.ntmps10
 go_wp2_with fail
 refine wp_region_held_drew (S:=fun z=>UgS w z lo hi u) (by kernel_rfl) Q0.out.drew (fun hHeld=>?_)
 refine rgT 0 ?_
 refine rgV 1 (.agg (attC u.at_)) (fun w' hSw=>za8 (.tmp 3) rfl w.heap.size 0 rfl hSw.s.ratt HOB.out) ?_
 refine zaf (i:=2) rfl (by kernel_rfl) (by rfl) (zcQ _ lo hi u.at_ hHeld.s.at_.at_ hHeld.s.here) (fun w=>by kernel_rfl) ?_
 rw [H1.out]
 rintro e w1 ⟨rfl,hb1⟩
 refine ⟨_,rfl,hHeld.on hb1,fun hHeld=>?_⟩
 refine rgN ?_
 refine rgT 3 ?_
 refine rgT 4 ?_
 refine rgK 5 (fun w' hSw=>hSw.s.c24) ?_
 refine zaf (i:=6) rfl (by kernel_rfl) (by rfl) (zeG zh3 _ lo hi u.rA u.rn u.rc u.re hHeld.s.at_.re hHeld.s.here HFT.out.re hHeld.n) (fun w=>by kernel_rfl) ?_
 rw [H2.out]
 rintro e w2 ⟨rfl,hb2⟩
 refine ⟨_,rfl,hHeld.on hb2,fun hHeld=>?_⟩
 refine rgN ?_
 refine rgT 7 ?_
 refine rgT 8 ?_
 refine rgT 9 ?_
 refine rgK 10 (fun w' hSw=>hSw.s.c25) ?_
 refine zaf (i:=11) rfl (by kernel_rfl) (by rfl) (zeG zkT _ lo hi u.nA u.nn u.nc u.ne hHeld.s.at_.ne hHeld.s.here HFT.out.ne hHeld.n) (fun w=>by kernel_rfl) ?_
 rw [H3.out]
 rintro e w3 ⟨rfl,hb3⟩
 refine ⟨_,rfl,hHeld.on hb3,fun hHeld=>?_⟩
 refine rgN ?_
 refine rgT 12 ?_
 refine rgT 13 ?_
 refine rgT 14 ?_
 refine rgK 15 (fun w' hSw=>hSw.s.c24) ?_
 refine rgT 16 ?_
 refine rgV 17 (.bool true) ?_ ?_
 ·(intro w' hSw;(try dsimp only at hSw);go_simp <;> first | rfl | omega)
 refine rgT 18 ?_
 refine rgS 19 ?_
 refine rgS 20 ?_
 refine rgS 21 ?_
 refine rgS 22 ?_
 refine rgT 23 ?_
 refine rgT 24 ?_
 refine rgT 25 ?_
 refine wpAnyH_done (by kernel_rfl) ?_ _
 go_wp2_with fail
 go_ret
 exact ⟨rfl,hHeld.s.bl⟩
theorem ztD (w:World) (lo hi:Nat) (u:UpP) (h:UpAt w lo hi u) (hh:hi≤w.heap.size) (hfit:FitU u) (hN:zaQ w) (H1:Hid (zbK u.at_.ats=true)) (H2:Hid (fewT zc8 (u.re.map TbP.tb)=true)) (H3:Hid (fewT (zaY false) (u.ne.map TbP.tb)=true)) (hr:¬ (0:Int)<(u.rn:Int)) :
  Calls Tryz.prog 10 #[.agg (updC u)] w fun e w'=>e = .returned (.bool (zdk u.at_.ats zbV))∧Below w.heap.size w w':=by
 have S0:=hide (UpS.start h hh)
 have Q0:Hid (UgS w (w.alloc (.cells (updC u) 33)) lo hi u):=hide ⟨S0.out,hN.below S0.out.bl⟩
 have HFT:=hide hfit
 have HOB:=hide h.ob
 clear h hfit hN S0
 go_enter Tryz.func10,Tryz.ntmps10
 go_wp2_with fail
 refine wp_region_held_drew (S:=fun z=>UgS w z lo hi u) (by kernel_rfl) Q0.out.drew (fun hHeld=>?_)
 refine rgT 0 ?_
 refine rgV 1 (.agg (attC u.at_)) (fun w' hSw=>za8 (.tmp 3) rfl w.heap.size 0 rfl hSw.s.ratt HOB.out) ?_
 refine zaf (i:=2) rfl (by kernel_rfl) (by rfl) (zcQ _ lo hi u.at_ hHeld.s.at_.at_ hHeld.s.here) (fun w=>by kernel_rfl) ?_
 rw [H1.out]
 rintro e w1 ⟨rfl,hb1⟩
 refine ⟨_,rfl,hHeld.on hb1,fun hHeld=>?_⟩
 refine rgN ?_
 refine rgT 3 ?_
 refine rgT 4 ?_
 refine rgK 5 (fun w' hSw=>hSw.s.c24) ?_
 refine zaf (i:=6) rfl (by kernel_rfl) (by rfl) (zeG zh3 _ lo hi u.rA u.rn u.rc u.re hHeld.s.at_.re hHeld.s.here HFT.out.re hHeld.n) (fun w=>by kernel_rfl) ?_
 rw [H2.out]
 rintro e w2 ⟨rfl,hb2⟩
 refine ⟨_,rfl,hHeld.on hb2,fun hHeld=>?_⟩
 refine rgN ?_
 refine rgT 7 ?_
 refine rgT 8 ?_
 refine rgT 9 ?_
 refine rgK 10 (fun w' hSw=>hSw.s.c25) ?_
 refine zaf (i:=11) rfl (by kernel_rfl) (by rfl) (zeG zkT _ lo hi u.nA u.nn u.nc u.ne hHeld.s.at_.ne hHeld.s.here HFT.out.ne hHeld.n) (fun w=>by kernel_rfl) ?_
 rw [H3.out]
 rintro e w3 ⟨rfl,hb3⟩
 refine ⟨_,rfl,hHeld.on hb3,fun hHeld=>?_⟩
 refine rgN ?_
 refine rgT 12 ?_
 refine rgT 13 ?_
 refine rgT 14 ?_
 refine rgK 15 (fun w' hSw=>hSw.s.c24) ?_
 refine rgT 16 ?_
 refine rgV 17 (.bool false) ?_ ?_
 ·(intro w' hSw;(try dsimp only at hSw);go_simp <;> first | rfl | omega)
 refine rgT 18 ?_
 refine rgT 19 ?_
 refine rgV 20 (.agg (attC u.at_)) (fun w' hSw=>za8 (.tmp 22) rfl w.heap.size 0 rfl hSw.s.ratt HOB.out) ?_
 refine zaf (i:=21) rfl (by kernel_rfl) (by rfl) (zkK _) (fun w=>by kernel_rfl) ?_
 rintro e w4 ⟨rfl,hb4⟩
 refine ⟨_,rfl,hHeld.on hb4,fun hHeld=>?_⟩
 refine rgN ?_
 refine zaf (i:=22) rfl (by kernel_rfl) (by rfl) (zn4 w4 lo hi w4.heap.size w4.heap.size u.at_ zfa hHeld.s.at_.at_ (zga _ _ _) hHeld.s.here (Nat.le_refl _) (HFT.out.at_ H1.out)) (fun w=>by kernel_rfl) ?_
 rintro e w5 ⟨rfl,hb5⟩
 refine ⟨_,rfl,hHeld.on hb5,fun hHeld=>?_⟩
 refine rgN ?_
 refine rgT 23 ?_
 refine rgT 24 ?_
 refine rgT 25 ?_
 refine wpAnyH_done (by kernel_rfl) ?_ _
 go_wp2_with fail
 go_ret
 exact ⟨by rw [zt3];cases zdk u.at_.ats zbV <;> rfl,hHeld.s.bl⟩
theorem zft (w:World) (lo hi:Nat) (u:UpP) (h:UpAt w lo hi u) (hh:hi≤w.heap.size) (hfit:FitU u) (hN:zaQ w) :
  Calls Tryz.prog 10 #[.agg (updC u)] w fun e w'=>e = .returned (.bool (zcv u.up))∧Below w.heap.size w w':=by
 have hl:(u.re.map TbP.tb).length=u.rn:=by rw [List.length_map,h.re.len]
 have e:zcv u.up=(zbK u.at_.ats&&(fewT zc8 (u.re.map TbP.tb)&&(fewT (zaY false) (u.ne.map TbP.tb)&&(decide (0<u.rn)||zdk u.at_.ats zbV)))):=by rw [← hl];rfl
 rw [e]
 cases h1:zbK u.at_.ats
 ·exact ztH w lo hi u h hh hfit hN (hide h1)
 ·cases h2:fewT zc8 (u.re.map TbP.tb)
  ·exact ztG w lo hi u h hh hfit hN (hide h1) (hide h2)
  ·cases h3:fewT (zaY false) (u.ne.map TbP.tb)
   ·exact ztF w lo hi u h hh hfit hN (hide h1) (hide h2) (hide h3)
   ·by_cases hr:0<u.rn
    ·rw [decide_eq_true hr]
     exact ztE w lo hi u h hh hfit hN (hide h1) (hide h2) (hide h3) (by omega)
    ·rw [decide_eq_false hr]
     exact ztD w lo hi u h hh hfit hN (hide h1) (hide h2) (hide h3) (by omega)
end
section
set_option maxRecDepth 20000
open Go.RowKit
theorem zsQ (w:World) (a:Nat) (t:TypeId):At (w.alloc (.cells (madeCells #[.int .u8 0] a) t)) w.heap.size (w.heap.size+1) (some ⟨w.heap.size,0,none⟩) a (List.replicate a 0) :=
 ⟨by simp,fun _=>⟨_,0,rfl,Nat.le_refl _,by omega,fun j u hu=>by
  have hb:=(Blk.new w t (madeCells #[.int .u8 0] a)).cell j
  rw [Nat.zero_add,hb,← Array.getElem?_toList,toList_madeCells_one]
  obtain ⟨hj,rfl⟩:=List.getElem?_eq_some_iff.1 hu
  rw [List.length_replicate] at hj
  rw [List.getElem?_replicate,if_pos hj]
  simp [bv]⟩⟩
theorem zuD (w:World) (V1 V2 V3:Int) (t:TypeId) (a b c:UInt8) (h1:V1=(a.toNat:Int)) (h2:V2=(b.toNat:Int)) (h3:V3=(c.toNat:Int)) :
  At (w.alloc (.cells #[.int .u8 V1,.int .u8 V2,.int .u8 V3] t)) w.heap.size (w.heap.size+1) (some ⟨w.heap.size,0,none⟩) 3 [a,b,c]:=by
 subst h1 h2 h3
 refine ⟨rfl,fun _=>⟨_,0,rfl,Nat.le_refl _,by omega,fun j u hu=>?_⟩⟩
 have hb:=(Blk.new w t #[.int .u8 (a.toNat:Int),.int .u8 (b.toNat:Int),.int .u8 (c.toNat:Int)]).cell j
 rw [Nat.zero_add,hb]
 match j,hu with
 | 0,hu=>simp at hu;subst hu;rfl
 | 1,hu=>simp at hu;subst hu;rfl
 | 2,hu=>simp at hu;subst hu;rfl
theorem zjE (w:World) (f:Int):Calls Tryz.prog 118 #[.int .i64 f] w fun e w'=>e = .returned (.int .i64 ((ahT f).length:Nat))∧w=w':=by
 unfold ahT
 by_cases hf:f=128
 ·rw [if_pos hf]
  go_enter Tryz.func118,Tryz.ntmps118
  go_wp2
  go_ret
  exact ⟨rfl,rfl⟩
 ·rw [if_neg hf]
  go_enter Tryz.func118,Tryz.ntmps118
  go_wp2
  go_ret
  exact ⟨rfl,rfl⟩
theorem zmI (w:World) (s:Int) (h:s=4∨s=16):Calls Tryz.prog 75 #[.int .i64 s] w fun e w'=>e = .returned (.int .u8 ((numT s).toNat:Nat))∧w=w':=by
 have:=ziW w s
 rcases h with rfl | rfl <;> exact this
set_option maxHeartbeats 1000000 in
theorem zrO (w:World) (lo hi:Nat) (x:TbP) (h:mTb w lo hi x) (hw:wTb x) (hh:hi≤w.heap.size) (a s:Nat) (ha:(ahT x.f).length=a) (ha8:a≤8) (hs:x.ns=(s:Int)) (hs16:s≤16) (hr:zaC x.ns x.nb=true) :
  Calls Tryz.prog 76 #[.agg (tbC x)] w fun e w'=>∃ v,e = .returned v∧w'.ownsRow w.heap.size 5 1 v (zgB x.tb).length (bvs (zgB x.tb))∧Below w.heap.size w w':=by
 obtain ⟨i0,hi0,hz0,hz1,hz2⟩:=info_parts zbA
 have S0:=hide (TbS.start h hw hh)
 have c1:=S0.out.c1
 have HA:=hide ha
 have HS:=hide hs
 have HRA:=hide hr
 have HOB:=hide (zdB hw)
 have HL:=hide (zdm hw.nb hr)
 have HAT:Hid (ahT x.f=List.replicate a 0):=hide (by
  rw [← ha];unfold ahT;split <;> rfl)
 clear h hw ha hs hr
 go_enter Tryz.func76,Tryz.ntmps76
 go_wp2_with fail
 refine (zjE _ x.f).mono ?_
 rw [HA.out]
 rintro e w1 ⟨rfl,rfl⟩
 go_wp2_with (refine zbY rfl (.tmp 7) (.tmp 7) 36 rfl 5 i0 Tryz.underlying36 hi0 hz0 hz1 hz2 a a _ rfl rfl rfl (Nat.le_refl _) (by omega) ?_;refine Hid.out ?_)
 refine hide ?_
 have S2:=hide (S0.out.new (.cells (madeCells #[.int .u8 0] a) 5))
 have M2:=hide (zsQ (w.alloc (.cells (tbC x) 53)) a 5)
 have k2:=S2.out.c2
 rw [HS.out] at k2
 have e1:(w.alloc (.cells (tbC x) 53)).heap.size=w.heap.size+1:=by simp
 rw [e1] at M2
 generalize (w.alloc (.cells (tbC x) 53)).alloc (.cells (madeCells #[.int .u8 0] a) 5)=w2 at *
 have M2z:Hid (w.heap.size+1<w2.heap.size∨a=0):=hide (by
  rcases Nat.eq_zero_or_pos a with h0 | h0
  ·exact .inr h0
  ·obtain ⟨b,o,e,_,_,hc⟩:=M2.out.2 h0
   injection e with e;injection e with e _
   have h1:=World.block_lt_of_cell? _ _ (hc 0 _ (by rw [List.getElem?_replicate,if_pos h0]))
   exact .inl (by rw [e];exact h1))
 have S3:=hide (S2.out.new (.cells #[.int .u8 ((a:Int)+(s:Int))] 5))
 have M3:=hide ((M2.out.lt.alloc (Nat.le_refl _) (.cells #[.int .u8 ((a:Int)+(s:Int))] 5)))
 have O3:=hide (zoD w2 ((a:Int)+(s:Int)) 5 (UInt8.ofNat (a+s)) (by simp;omega))
 have hz3:(w2.alloc (.cells #[.int .u8 ((a:Int)+(s:Int))] 5)).heap.size=w2.heap.size+1:=by simp
 have RG3:=hide S3.out.rng
 clear S0 c1 e1 S2
 go_wp2_with ((with_reducible refine zal ?_ (zcW (.tmp 19) rfl w.heap.size 0 rfl RG3.out HOB.out) ?_);· rfl)
 refine (zdc _ x.ns x.nb HOB.out).mono ?_
 rintro e w4 ⟨v4,rfl,ho4,hb4⟩
 obtain ⟨A4,c4,rfl,_,_⟩:=zad ho4
 have S4:=hide (S3.out.on hb4)
 have P1:=hide ((O3.out.below (hb4.mono (by omega))).more (lo':=0) (hi':=w4.heap.size) (Nat.zero_le _) (by have:=hb4.size;omega))
 have P2:=hide ((M3.out.below (hb4.mono (by omega))).more (lo':=0) (hi':=w4.heap.size) (Nat.zero_le _) (by have:=hb4.size;omega))
 have P3:=hide ((At.own ho4).more (lo':=0) (hi':=w4.heap.size) (Nat.zero_le _) (Nat.le_refl _))
 have Z4:=hide (zoD w4 0 5 0 rfl)
 have B5:Hid (Below w4.heap.size w4 (w4.alloc (.cells #[.int .u8 0] 5))):=hide ((Below.refl _ _).alloc (Nat.le_refl _) _)
 have hz5:(w4.alloc (.cells #[.int .u8 0] 5)).heap.size=w4.heap.size+1:=by simp
 have R5:=hide (zqZ (c1:=1) (c2:=a) (c3:=c4) (c4:=1) ((P1.out.below B5.out).more (hi':=w4.heap.size+1) (Nat.le_refl _) (by omega)) ((P2.out.below B5.out).more (hi':=w4.heap.size+1) (Nat.le_refl _) (by omega)) ((P3.out.below B5.out).more (hi':=w4.heap.size+1) (Nat.le_refl _) (by omega)) (Z4.out.more (lo':=0) (hi':=w4.heap.size+1) (Nat.zero_le _) (Nat.le_refl _)))
 clear S3 M2 M3 O3 RG3 hz3 ho4 hb4 P1 P2 P3 Z4
 have NB:=Blk.new (w4.alloc (.cells #[.int .u8 0] 5)) 36 #[.slice (some ⟨w2.heap.size,0,none⟩) 1 1,.slice (some ⟨w.heap.size+1,0,none⟩) a a,.slice A4 (zar x.ns x.nb).length c4,.slice (some ⟨w4.heap.size,0,none⟩) 1 1]
 rw [hz5] at NB
 have HNB:=hide NB
 have HFL:Hid (([[UInt8.ofNat (a+s)],List.replicate a 0,zar x.ns x.nb,[0]]:List (List UInt8)).flatten=zgB x.tb):=hide (by
  have e2:x.tb.ns.toNat=s:=by show x.ns.toNat=s;rw [HS.out];rfl
  unfold zgB
  show _=UInt8.ofNat ((ahT x.f).length+x.tb.ns.toNat)::(ahT x.f++(zar x.ns x.nb++[0]))
  rw [HA.out,e2,HAT.out]
  simp)
 have HSUM:Hid (([[UInt8.ofNat (a+s)],List.replicate a 0,zar x.ns x.nb,[0]]:List (List UInt8)).flatten.length≤140737488351000):=hide (by
  have h1:=HL.out
  rw [HS.out] at h1
  have h2:(zar x.ns x.nb).length=s:=by rw [HS.out];exact h1
  simp [h2]
  omega)
 have B6:=hide (((S4.out.bl.alloc S4.out.bl.size (.cells #[.int .u8 0] 5)).alloc (by rw [hz5];have:=S4.out.bl.size;omega) (.cells #[.slice (some ⟨w2.heap.size,0,none⟩) 1 1,.slice (some ⟨w.heap.size+1,0,none⟩) a a,.slice A4 (zar x.ns x.nb).length c4,.slice (some ⟨w4.heap.size,0,none⟩) 1 1] 36)))
 clear NB S4
 go_wp2_with fail
 refine (zcR _ (w4.heap.size+1) 36 _ [[UInt8.ofNat (a+s)],List.replicate a 0,zar x.ns x.nb,[0]] 4 rfl (by decide) HNB.out (R5.out.below ((Below.refl _ _).alloc (by rw [hz5];exact Nat.le_refl _) _) |>.wide (by simp)) HSUM.out).mono ?_
 rw [HFL.out]
 rintro e w7 ⟨v7,rfl,ho7,hb7⟩
 go_wp2
 go_ret
 exact ⟨v7,rfl,zay ho7 B6.out.size,zaa B6.out hb7 (Nat.le_refl _)⟩
structure TgS (w z:World) (lo hi:Nat) (x:TbP):Prop where
 s:TbS w z lo hi x
 n:zaQ z
section
variable {w y z:World} {lo hi:Nat} {x:TbP}
theorem TgS.on (h:TgS w y lo hi x) (hb:Below y.heap.size y z):TgS w z lo hi x:=⟨h.s.on hb,h.n.below hb⟩
theorem TgS.drew (h:TgS w y lo hi x):TgS w y.drew lo hi x:=h.on (zam (Below.refl _ _))
theorem TgS.new (h:TgS w y lo hi x) (ob:Obj):TgS w (y.alloc ob) lo hi x:=h.on ((Below.refl _ _).alloc (Nat.le_refl _) ob)
theorem TgS.here (h:TgS w y lo hi x):hi≤y.heap.size:=Nat.le_trans h.s.hh h.s.bl.size
end
theorem zpb {l:List Mr} {n:Nat} (hw:∀ m∈l,m.W) (hn:n≤1260000000000) (hl:l.length=n):(rowO l).length≤138600000000000:=by
 cases h:zjl l
 ·unfold rowO;rw [h];simp
 ·rw [(zkv h).1]
  have h1:=zg2 hw (fun m hm=>by unfold zjl at h;rw [List.all_eq_true] at h;exact h m hm)
  omega
theorem zmT {l:List Ur} {n:Nat} (hw:∀ m∈l,m.W) (hn:n≤3000000000000) (hl:l.length=n):(zez l).length≤84000000000000:=by
 cases h:zfL l
 ·unfold zez;rw [h];simp
 ·rw [(ziA h).1]
  have h1:=zg1 hw (fun m hm=>by unfold zfL at h;rw [List.all_eq_true] at h;exact h m hm)
  omega
theorem zlF {t:Tb} (h:zdA t=true):t.us=[]∨t.ms=[]:=by
 unfold zdA at h
 split at h
 ·simp only [Bool.and_eq_true,decide_eq_true_eq] at h
  exact .inl (List.eq_nil_of_length_eq_zero h.1)
 ·simp only [Bool.and_eq_true,decide_eq_true_eq] at h
  exact .inr (List.eq_nil_of_length_eq_zero h.1)
theorem zpi {x:TbP} {r:Bool} (h:zaY r x.tb=true):∃ s a:Nat,x.ns=(s:Int)∧s≤16∧(ahT x.f).length=a∧a≤8∧zaC x.ns x.nb=true:=by
 obtain ⟨_,_,_,h4,_⟩:=zcu h
 have hs:x.ns=0∨x.ns=4∨x.ns=16:=zby h4
 exact ⟨x.ns.toNat,(ahT x.f).length,by omega,by omega,rfl,by unfold ahT;split <;> simp,h4⟩
theorem znc {x:TbP} {a s:Nat} (hl:x.nb.length=16) (hr:zaC x.ns x.nb=true) (ha8:a≤8) (ha:(ahT x.f).length=a) (hs:x.ns=(s:Int)) (hs16:s≤16):(zgB x.tb).length≤30:=by
 have h1:=zdd x.ns hl
 unfold zgB
 show (UInt8.ofNat _::(ahT x.f++(zar x.ns x.nb++[0]))).length≤30
 simp only [List.length_cons,List.length_append,List.length_nil]
 omega
set_option maxHeartbeats 2000000 in
theorem zeu (w:World) (lo hi:Nat) (x:TbP) (b:Bool) (h:mTb w lo hi x) (hw:wTb x) (hh:hi≤w.heap.size) (hfit:FitT x) (hN:zaQ w) (hr:zaY b x.tb=true) :
  Calls Tryz.prog 42 #[.agg (tbC x),.bool b] w fun e w'=>∃ v,e = .returned v∧w'.ownsRow w.heap.size 5 1 v (valT b x.tb).length (bvs (valT b x.tb))∧Below w.heap.size w w':=by
 obtain ⟨r1,r2,_,r4,r5⟩:=zcu hr
 obtain ⟨F,hF⟩:∃ F:Nat,x.f=(F:Int):=⟨x.f.toNat,by have:x.f=5∨x.f=128:=r2;omega⟩
 have hF2:F=5∨F=128:=by have:x.f=5∨x.f=128:=r2;omega
 have Q0:Hid (TgS w (w.alloc (.cells (tbC x) 53)) lo hi x):=hide ⟨TbS.start h hw hh,hN.below ((Below.refl _ _).alloc (Nat.le_refl _) _)⟩
 have HF:=hide hF
 have HFT:=hide hfit
 have HOB:=hide (zdB hw)
 have HR:=hide hr
 have HS1:Hid (x.s=4∨x.s=16):=hide r1
 have hFI:(F:Int)<256:=by omega
 clear h hw hfit hN hr r1 r2 r4 r5 hF
 go_enter Tryz.func42,Tryz.ntmps42
 go_wp2_with fail
 refine wp_region_held_drew (S:=fun z=>TgS w z lo hi x) (by kernel_rfl) Q0.out.drew (fun hHeld=>?_)
 refine rgT 0 ?_
 refine rgK 1 (fun w' hSw=>hSw.s.c0) ?_
 refine rgT 3 ?_
 refine rgK 4 (fun w' hSw=>(hSw.s.c1.trans (by rw [HF.out]):w'.cell? ⟨w.heap.size,1,none⟩=some (.int .i64 (F:Int)))) ?_
 refine rgV 5 (.int .u8 (F:Int)) ?_ ?_
 ·(intro w' hSw;rcases hF2 with rfl | rfl <;> (go_simp <;> rfl))
 refine zaf (i:=2) rfl (by kernel_rfl) (by rfl) (zmI _ x.s HS1.out) (fun w=>by kernel_rfl) ?_
 rintro e w1 ⟨rfl,rfl⟩
 refine ⟨_,rfl,hHeld,fun hHeld=>?_⟩
 refine rgN ?_
 refine zaz (i:=6) (v:=.slice (some ⟨(w.alloc (.cells (tbC x) 53)).drew.heap.size,0,none⟩) 3 3) (w':=(w.alloc (.cells (tbC x) 53)).drew.alloc (.cells #[.int .u8 0,.int .u8 ((numT x.s).toNat:Int),.int .u8 (F:Int)] 5)) rfl (by kernel_rfl) (by rfl) ?_ (hHeld.new _) (fun hHeld=>?_)
 ·(go_simp <;> with_reducible rfl)
 refine rgN ?_
 refine rgT 7 ?_
 refine wpAnyH_done (by kernel_rfl) ?_ _
 have TH:=hide (zuD (w.alloc (.cells (tbC x) 53)).drew 0 ((numT x.s).toNat:Int) (F:Int) 5 0 (numT x.s) (UInt8.ofNat F) rfl rfl (by rcases hF2 with rfl | rfl <;> rfl))
 have S2:=hide hHeld
 have e1:(w.alloc (.cells (tbC x) 53)).drew.heap.size=w.heap.size+1:=by simp
 rw [e1] at TH
 have TH2:=hide (TH.out.lt.more (lo':=0) (Nat.zero_le _) (Nat.le_refl _))
 clear hHeld TH e1 Q0
 generalize ((w.alloc (.cells (tbC x) 53)).drew.alloc (.cells #[.int .u8 0,.int .u8 ((numT x.s).toNat:Int),.int .u8 (F:Int)] 5))=w2 at *
 have NX2:=hide (At.nil w2 0 w2.heap.size none)
 have HLM:Hid ((rowO x.ms).length≤138600000000000):=hide (zpb S2.out.s.sz.ms HFT.out.m S2.out.s.m.1.len)
 have HLU:Hid ((zez x.us).length≤84000000000000):=hide (zmT S2.out.s.sz.us HFT.out.u S2.out.s.m.2.1.len)
 have HEM:Hid ((rowO x.ms).length+(zez x.us).length≤138600000000000):=hide (by
  have h1:=HLM.out
  have h2:=HLU.out
  rcases zlF (zcu HR.out).2.2.1 with h0 | h0
  ·have h3:zez x.us=[]:=by rw [show x.us=[] from h0];rfl
   rw [h3];simpa using h1
  ·have h3:rowO x.ms=[]:=by rw [show x.ms=[] from h0];rfl
   rw [h3];simp;omega)
 cases b
 ·have HFL:Hid (([[0,numT x.s,UInt8.ofNat F],[],rowO x.ms,zez x.us]:List (List UInt8)).flatten=valT false x.tb):=hide (by
   have e2:x.tb.f.toNat=F:=by show x.f.toNat=F;rw [HF.out];rfl
   unfold valT zbT
   rw [e2]
   simp
   exact ⟨rfl,rfl⟩)
  have HSUM:Hid (([[0,numT x.s,UInt8.ofNat F],[],rowO x.ms,zez x.us]:List (List UInt8)).flatten.length≤140737488351000):=hide (by
   have h1:=HLM.out
   have h2:=HLU.out
   have h4:=HEM.out
   simp
   omega)
  have k19:=S2.out.s.c19
  go_wp2_with fail
  refine (zot _ lo hi x.mA x.mn x.mc x.ms S2.out.s.m.1 S2.out.here S2.out.s.sz.ms HFT.out.k HFT.out.m S2.out.n).mono ?_
  rintro e w4 ⟨v4,rfl,ho4,hb4⟩
  obtain ⟨A4,c4,rfl,_,_⟩:=zad ho4
  have S4:=hide (S2.out.on hb4)
  have M4:=hide ((At.own ho4).more (lo':=0) (hi':=w4.heap.size) (Nat.zero_le _) (Nat.le_refl _))
  have T4:=hide ((TH2.out.below hb4).more (lo':=0) (hi':=w4.heap.size) (Nat.le_refl _) hb4.size)
  have N4:=hide ((NX2.out.below hb4).more (lo':=0) (hi':=w4.heap.size) (Nat.le_refl _) hb4.size)
  have k20:=S4.out.s.c20
  clear ho4 hb4 S2 TH2 NX2 k19
  go_wp2_with fail
  refine (znO _ lo hi x.uA x.un x.uc x.us S4.out.s.m.2.1 S4.out.here S4.out.s.sz.us HFT.out.u).mono ?_
  rintro e w5 ⟨v5,rfl,ho5,hb5⟩
  obtain ⟨A5,c5,rfl,_,_⟩:=zad ho5
  have S5:=hide (S4.out.on hb5)
  have U5:=hide ((At.own ho5).more (lo':=0) (hi':=w5.heap.size) (Nat.zero_le _) (Nat.le_refl _))
  have R5:=hide (zqZ (c1:=3) (c2:=0) (c3:=c4) (c4:=c5) ((T4.out.below hb5).more (lo':=0) (hi':=w5.heap.size) (Nat.le_refl _) hb5.size) ((N4.out.below hb5).more (lo':=0) (hi':=w5.heap.size) (Nat.le_refl _) hb5.size) ((M4.out.below hb5).more (lo':=0) (hi':=w5.heap.size) (Nat.le_refl _) hb5.size) U5.out)
  clear ho5 hb5 S4 T4 N4 M4 U5 k20
  go_wp2_with fail
  refine (zcR _ w5.heap.size 36 _ [[0,numT x.s,UInt8.ofNat F],[],rowO x.ms,zez x.us] 4 rfl (by decide) (Blk.new w5 _ _) (R5.out.below ((Below.refl w5.heap.size w5).alloc (Nat.le_refl _) _) |>.wide (by simp)) HSUM.out).mono ?_
  rw [HFL.out]
  rintro e w6 ⟨v6,rfl,ho6,hb6⟩
  go_wp2
  go_ret
  exact ⟨v6,rfl,zay ho6 (Nat.le_trans S5.out.s.bl.size (by simp)),zaa (S5.out.s.bl.alloc S5.out.s.bl.size _) hb6 (Nat.le_refl _)⟩
 ·obtain ⟨s,a,hs,hs16,ha,ha8,hra⟩:=zpi HR.out
  have HL:=hide (znc S2.out.s.sz.nb hra ha8 ha hs hs16)
  have HFL:Hid (([[0,numT x.s,UInt8.ofNat F],zgB x.tb,rowO x.ms,zez x.us]:List (List UInt8)).flatten=valT true x.tb):=hide (by
   have e2:x.tb.f.toNat=F:=by show x.f.toNat=F;rw [HF.out];rfl
   unfold valT zbT
   rw [e2]
   simp
   exact ⟨rfl,rfl⟩)
  have HSUM:Hid (([[0,numT x.s,UInt8.ofNat F],zgB x.tb,rowO x.ms,zez x.us]:List (List UInt8)).flatten.length≤140737488351000):=hide (by
   have h1:=HLM.out
   have h2:=HLU.out
   have h4:=HEM.out
   have h3:=HL.out
   simp
   omega)
  have RG2:=hide S2.out.s.rng
  have HA:=hide ha
  have HS:=hide hs
  have HRA:=hide hra
  clear ha hs hra NX2
  go_wp2_with ((with_reducible refine zao ?_ (.tmp 2) rfl w.heap.size 0 rfl x RG2.out HOB.out ?_);· rfl)
  refine (zrO _ lo hi x S2.out.s.m S2.out.s.sz S2.out.here a s HA.out ha8 HS.out hs16 HRA.out).mono ?_
  rintro e w3 ⟨v3,rfl,ho3,hb3⟩
  obtain ⟨A3,c3,rfl,_,_⟩:=zad ho3
  have S3:=hide (S2.out.on hb3)
  have NX3:=hide ((At.own ho3).more (lo':=0) (hi':=w3.heap.size) (Nat.zero_le _) (Nat.le_refl _))
  have TH3:=hide ((TH2.out.below hb3).more (lo':=0) (hi':=w3.heap.size) (Nat.le_refl _) hb3.size)
  clear ho3 hb3 S2 TH2 RG2
  have k19b:=S3.out.s.c19
  go_wp2_with fail
  refine (zot _ lo hi x.mA x.mn x.mc x.ms S3.out.s.m.1 S3.out.here S3.out.s.sz.ms HFT.out.k HFT.out.m S3.out.n).mono ?_
  rintro e w4 ⟨v4,rfl,ho4,hb4⟩
  obtain ⟨A4,c4,rfl,_,_⟩:=zad ho4
  have S4:=hide (S3.out.on hb4)
  have M4:=hide ((At.own ho4).more (lo':=0) (hi':=w4.heap.size) (Nat.zero_le _) (Nat.le_refl _))
  have T4:=hide ((TH3.out.below hb4).more (lo':=0) (hi':=w4.heap.size) (Nat.le_refl _) hb4.size)
  have N4:=hide ((NX3.out.below hb4).more (lo':=0) (hi':=w4.heap.size) (Nat.le_refl _) hb4.size)
  have k20:=S4.out.s.c20
  clear ho4 hb4 S3 TH3 NX3 k19b
  go_wp2_with fail
  refine (znO _ lo hi x.uA x.un x.uc x.us S4.out.s.m.2.1 S4.out.here S4.out.s.sz.us HFT.out.u).mono ?_
  rintro e w5 ⟨v5,rfl,ho5,hb5⟩
  obtain ⟨A5,c5,rfl,_,_⟩:=zad ho5
  have S5:=hide (S4.out.on hb5)
  have U5:=hide ((At.own ho5).more (lo':=0) (hi':=w5.heap.size) (Nat.zero_le _) (Nat.le_refl _))
  have R5:=hide (zqZ (c1:=3) (c2:=c3) (c3:=c4) (c4:=c5) ((T4.out.below hb5).more (lo':=0) (hi':=w5.heap.size) (Nat.le_refl _) hb5.size) ((N4.out.below hb5).more (lo':=0) (hi':=w5.heap.size) (Nat.le_refl _) hb5.size) ((M4.out.below hb5).more (lo':=0) (hi':=w5.heap.size) (Nat.le_refl _) hb5.size) U5.out)
  clear ho5 hb5 S4 T4 N4 M4 U5 k20
  go_wp2_with fail
  refine (zcR _ w5.heap.size 36 _ [[0,numT x.s,UInt8.ofNat F],zgB x.tb,rowO x.ms,zez x.us] 4 rfl (by decide) (Blk.new w5 _ _) (R5.out.below ((Below.refl w5.heap.size w5).alloc (Nat.le_refl _) _) |>.wide (by simp)) HSUM.out).mono ?_
  rw [HFL.out]
  rintro e w6 ⟨v6,rfl,ho6,hb6⟩
  go_wp2
  go_ret
  exact ⟨v6,rfl,zay ho6 (Nat.le_trans S5.out.s.bl.size (by simp)),zaa (S5.out.s.bl.alloc S5.out.s.bl.size _) hb6 (Nat.le_refl _)⟩
end
end Go.Proofs.YtookpplebikfnaaGreatDoor
