/-
  Which updates are right: few, Right of package update, in whatever memory. The one condition beyond sizes that fit memory: the program's tables hold what its text lays.
  The body of an update that is right: attributes of package update, in whatever memory. The one condition beyond sizes that fit memory: the program's tables hold what their texts lay.
  The body of any update: Bytes of package update, in whatever memory. The one condition beyond sizes that fit memory: the program's tables hold what their texts lay.
  What Parse of package update makes of a body that was written. The one condition beyond sizes that fit memory: the program's tables hold what their texts lay.
-/
import Derived.Deep.DeepCutAuto
import Derived.Test.YthgainmcnjldaaaGreatDoorKLBG
set_option linter.unusedVariables false
set_option linter.unusedSimpArgs false
namespace Go.Proofs.YthgainmcnjldaaaGreatDoor
section
set_option maxRecDepth 20000
set_option maxHeartbeats 2000000
open Go.RowKit
def zck (u:Up):Bool:=zbK u.at_&&(fewT zcF u.re&&(fewT (zbm false) u.un&&(decide (0<u.re.length)||zcV u.at_ zkp)))
def zqO (F:FuncId) (ok:Tb→Bool):Prop:=∀ (w:World) (lo hi:Nat) (x:TbP),mTb w lo hi x→wTb x→hi≤w.heap.size→FitT x→zaK w→∀ g:Nat,Blk w g 124 #[.func (.func F) #[] #[]] →
 Calls Tryz.prog 102 #[.agg (tbC x),.pointer (some ⟨g,0,none⟩)] w fun e w'=>e = .returned (.bool (!ok x.tb))∧Below w.heap.size w w'
theorem zgP:zqO 64 (zcF):=by
 intro w lo hi x hm hw hh hfit hN g hb
 have S0:=hide (TbS.start hm hw hh)
 have N0:=hide (hN.below S0.out.bl)
 have c0:(w.alloc (.cells (tbC x) 115)).cell? ⟨g,0,none⟩=some (.func (.func 64) #[] #[]):=(hb.alloc _).cell 0
 have RG:=hide S0.out.rng
 have HOB:=hide (zcG hw)
 have HFT:=hide hfit
 have HH:=hide (show hi≤(w.alloc (.cells (tbC x) 115)).heap.size from Nat.le_trans hh S0.out.bl.size)
 obtain ⟨r,hr⟩:∃ r,zcF x.tb=r:=⟨_,rfl⟩
 have HR:=hide hr
 rw [hr]
 clear hm hb hr hw hfit hN
 go_enter Tryz.func102,Tryz.ntmps102
 go_wp2_with ((with_reducible refine zay ?_ (.tmp 2) rfl w.heap.size 0 rfl x RG.out HOB.out ?_);· rfl)
 refine (zll _ lo hi x S0.out.m S0.out.sz HH.out HFT.out N0.out).mono ?_
 rw [HR.out]
 rintro e w1 ⟨rfl,hb1⟩
 have S1:=hide (S0.out.on hb1)
 go_wp2
 go_ret
 exact ⟨rfl,S1.out.bl⟩
theorem zje:zqO 65 (zbm false):=by
 intro w lo hi x hm hw hh hfit hN g hb
 have S0:=hide (TbS.start hm hw hh)
 have N0:=hide (hN.below S0.out.bl)
 have c0:(w.alloc (.cells (tbC x) 115)).cell? ⟨g,0,none⟩=some (.func (.func 65) #[] #[]):=(hb.alloc _).cell 0
 have RG:=hide S0.out.rng
 have HOB:=hide (zcG hw)
 have HFT:=hide hfit
 have HH:=hide (show hi≤(w.alloc (.cells (tbC x) 115)).heap.size from Nat.le_trans hh S0.out.bl.size)
 obtain ⟨r,hr⟩:∃ r,zbm false x.tb=r:=⟨_,rfl⟩
 have HR:=hide hr
 rw [hr]
 clear hm hb hr hw hfit hN
 go_enter Tryz.func102,Tryz.ntmps102
 go_wp2_with ((with_reducible refine zay ?_ (.tmp 2) rfl w.heap.size 0 rfl x RG.out HOB.out ?_);· rfl)
 refine (zlj _ lo hi x S0.out.m S0.out.sz HH.out HFT.out N0.out).mono ?_
 rw [HR.out]
 rintro e w1 ⟨rfl,hb1⟩
 have S1:=hide (S0.out.on hb1)
 go_wp2
 go_ret
 exact ⟨rfl,S1.out.bl⟩
section
variable {F:FuncId} {ok:Tb→Bool}
set_option maxHeartbeats 1000000 in
theorem znP (HF:zqO F ok) (w:World) (lo hi:Nat) (A:Option Addr) (n c:Nat) (l:List TbP) (h:RowE tbL mTb wTb w lo hi A n l) (hh:hi≤w.heap.size) (hn:n≤1000000000000) (hfit:∀ x∈l,FitT x) (hN:zaK w) (g:Nat) (hb:Blk w g 124 #[.func (.func F) #[] #[]]) :
  Calls Tryz.prog 137 #[.slice A n c,.func (.func 102) #[] #[.pointer (some ⟨g,0,none⟩)]] w fun e w'=>∃ r:Int,e = .returned (.int .i64 r)∧decide (0≤r)=(!(l.map TbP.tb).all ok)∧Below w.heap.size w w':=by
 have H:=hide h
 have HL:=hide h.len
 have HB:=hide hb
 have HFT:=hide hfit
 have HNM:=hide hN
 have HJ:=hide HF
 clear h hb hfit hN HF
 go_enter Tryz.func137,Tryz.ntmps137
 go_wp2_with fail
 go_loopw [8] (fun i wr=>∃ k:Nat,k≤n∧i = .int .i64 k∧(∀ x∈l.take k,ok x.tb=true)∧Below w.heap.size w wr) (fun i _=>n-(intOf i).toNat)
 case atStart=>exact ⟨0,Nat.zero_le _,rfl,(fun x hx=>by simp at hx),Below.refl _ _⟩
 case round =>
  obtain ⟨k,hk,rfl,hall,hbel⟩:=hrel
  have HA:=hide hall
  have WB:=hide hbel
  clear hall hbel
  by_cases hlt:k<n
  ·have YR:=hide (H.out.below mkTb (WB.out.mono hh))
   obtain ⟨b,o,x,rfl,_,_,hx,hat⟩:=YR.out.row.at_ (sz:=21) (fun y hy=>zjP (YR.out.sz y hy)) hlt
   have hmem:=List.mem_of_getElem? hx
   have HM:=hide (YR.out.mem x hmem)
   have HWX:=hide (YR.out.sz x hmem)
   have HOB:=hide (zcG HWX.out)
   have XF:=hide (HFT.out x hmem)
   have N1:=hide (HNM.out.below WB.out)
   have HX:=hide hx
   have HAT:=hide hat
   have HG:=hide (HB.out.over WB.out)
   have hh1:=Nat.le_trans hh WB.out.size
   obtain ⟨r,hr⟩:∃ r,ok x.tb=r:=⟨_,rfl⟩
   have HR:=hide hr
   have hkl:((k:Nat):Int)<(n:Int):=by omega
   clear hx hat hmem hr YR
   go_wp2_with ((with_reducible refine zay ?_ (.tmp 14) rfl b (o+k*21) rfl x HAT.out HOB.out ?_);· rfl)
   refine (HJ.out wr lo hi x HM.out HWX.out hh1 XF.out N1.out g HG.out).mono ?_
   rw [HR.out]
   rintro e w1 ⟨rfl,hb1⟩
   have WB1:=hide (zaa WB.out hb1 (Nat.le_refl _))
   clear hb1
   cases r
   ·have HF:Hid ((l.map TbP.tb).all ok=false):=hide (List.all_eq_false.2 ⟨x.tb,List.mem_map.2 ⟨x,List.mem_of_getElem? HX.out,rfl⟩,by rw [HR.out];decide⟩)
    go_wp2_with fail
    go_ret
    exact ⟨_,rfl,by rw [HF.out];exact decide_eq_true (by omega),WB1.out⟩
   ·have HNX:Hid (∀ y∈l.take (k+1),ok y.tb=true):=hide (by
     intro y hy
     rw [List.take_add_one,HX.out] at hy
     rcases List.mem_append.1 hy with hy | hy
     ·exact HA.out y hy
     ·rw [show y=x by simpa using hy];exact HR.out)
    go_wp2_with fail
    go_roundw
    case rel=>exact ⟨k+1,by omega,by go_num,HNX.out,WB1.out⟩
    case measure=>simp [intOf];omega
  ·obtain rfl:k=n:=by omega
   have HF:Hid ((l.map TbP.tb).all ok=true):=hide (by
    rw [List.all_eq_true]
    intro y hy
    obtain ⟨x,hx,rfl⟩:=List.mem_map.1 hy
    exact HA.out x (by rw [List.take_of_length_le (by rw [HL.out];exact Nat.le_refl _)];exact hx))
   go_wp2
   go_ret
   exact ⟨_,rfl,by rw [HF.out];rfl,WB.out⟩
theorem zjy (HF:zqO F ok) (w:World) (lo hi:Nat) (A:Option Addr) (n c:Nat) (l:List TbP) (h:RowE tbL mTb wTb w lo hi A n l) (hh:hi≤w.heap.size) (hn:n≤1000000000000) (hfit:∀ x∈l,FitT x) (hN:zaK w) (g:Nat) (hb:Blk w g 124 #[.func (.func F) #[] #[]]) :
  Calls Tryz.prog 103 #[.slice A n c,.func (.func 102) #[] #[.pointer (some ⟨g,0,none⟩)]] w fun e w'=>e = .returned (.bool (!(l.map TbP.tb).all ok))∧Below w.heap.size w w':=by
 have HC:=hide (znP HF w lo hi A n c l h hh hn hfit hN g hb)
 obtain ⟨q,hq⟩:∃ q,(l.map TbP.tb).all ok=q:=⟨_,rfl⟩
 have HQ:=hide hq
 rw [hq]
 clear h hb hq HF hfit hN
 go_enter Tryz.func103,Tryz.ntmps103
 go_wp2_with fail
 refine HC.out.mono ?_
 rintro e w1 ⟨r,rfl,hr,hb1⟩
 rw [HQ.out] at hr
 cases q
 ·have h0:(0:Int)≤r:=of_decide_eq_true hr
  clear hr
  go_wp2
  go_ret
  exact ⟨rfl,hb1⟩
 ·have h0:¬ (0:Int)≤r:=of_decide_eq_false hr
  clear hr
  go_wp2
  go_ret
  exact ⟨by show Ending.returned (.bool (decide (0≤r)))=_;rw [decide_eq_false (by omega)];rfl,hb1⟩
theorem zdG (HF:zqO F ok) (w:World) (lo hi:Nat) (A:Option Addr) (n c:Nat) (l:List TbP) (h:RowE tbL mTb wTb w lo hi A n l) (hh:hi≤w.heap.size) (hfit:∀ x∈l,FitT x) (hN:zaK w) :
  Calls Tryz.prog 63 #[.slice A n c,.func (.func F) #[] #[]] w fun e w'=>e = .returned (.bool (fewT ok (l.map TbP.tb)))∧Below w.heap.size w w':=by
 unfold fewT
 rw [List.length_map,h.len]
 have H:Hid (RowE tbL mTb wTb (w.alloc (.cells #[.func (.func F) #[] #[]] 124)) lo hi A n l):=hide (h.keep mkTb fun p _ hp=>World.cell?_alloc_lt w _ p (by omega))
 have HB:Hid (Blk (w.alloc (.cells #[.func (.func F) #[] #[]] 124)) w.heap.size 124 #[.func (.func F) #[] #[]]):=hide (Blk.new w _ _)
 have B0:Hid (Below w.heap.size w (w.alloc (.cells #[.func (.func F) #[] #[]] 124))):=hide ((Below.refl _ _).alloc (Nat.le_refl _) _)
 have hh0:hi≤(w.alloc (.cells #[.func (.func F) #[] #[]] 124)).heap.size:=by simp;omega
 have N0:=hide (hN.below B0.out)
 have HFT:=hide hfit
 have HJ:=hide HF
 clear h hfit hN HF
 by_cases hn:n≤1
 ·have hnI:(n:Int)≤1:=by omega
  rw [decide_eq_true hn,Bool.true_and]
  obtain ⟨r,hr⟩:∃ r,(l.map TbP.tb).all ok=r:=⟨_,rfl⟩
  have HR:=hide hr
  rw [hr]
  clear hr
  go_enter Tryz.func63,Tryz.ntmps63
  go_wp2_with fail
  refine (zjy HJ.out _ lo hi A n c l H.out hh0 (by omega) HFT.out N0.out w.heap.size HB.out).mono ?_
  rw [HR.out]
  rintro e w1 ⟨rfl,hb1⟩
  have W1:=hide (zaa B0.out hb1 (by simp))
  clear hb1
  go_wp2
  go_ret
  exact ⟨by cases r <;> rfl,W1.out⟩
 ·have hnI:¬ (n:Int)≤1:=by omega
  rw [decide_eq_false hn,Bool.false_and]
  go_enter Tryz.func63,Tryz.ntmps63
  go_wp2
  go_ret
  exact ⟨rfl,B0.out⟩
end
structure FitU (u:UpP):Prop where
 at_:zbK u.at_.ats=true→Fit9 u.at_
 re:∀ x∈u.re,FitT x
 ne:∀ x∈u.ne,FitT x
structure UgS (w y:World) (lo hi:Nat) (u:UpP):Prop where
 s:UpS w y lo hi u
 n:zaK y
section
variable {w y z:World} {lo hi:Nat} {u:UpP}
theorem UgS.on (h:UgS w y lo hi u) (hb:Below y.heap.size y z):UgS w z lo hi u:=⟨h.s.on hb,h.n.below hb⟩
theorem UgS.drew (h:UgS w y lo hi u):UgS w y.drew lo hi u:=h.on (zak (Below.refl _ _))
end
theorem zri (w:World) (lo hi:Nat) (u:UpP) (h:UpAt w lo hi u) (hh:hi≤w.heap.size) (hfit:FitU u) (hN:zaK w) (H1:Hid (zbK u.at_.ats=false)) :
  Calls Tryz.prog 44 #[.agg (updC u)] w fun e w'=>e = .returned (.bool false)∧Below w.heap.size w w':=by
 have S0:=hide (UpS.start h hh)
 have Q0:Hid (UgS w (w.alloc (.cells (updC u) 49)) lo hi u):=hide ⟨S0.out,hN.below S0.out.bl⟩
 have HFT:=hide hfit
 have HOB:=hide h.ob
 clear h hfit hN S0
 go_enter Tryz.func44,Tryz.ntmps44
 go_wp2_with fail
 refine wp_region_held_drew (S:=fun z=>UgS w z lo hi u) (by kernel_rfl) Q0.out.drew (fun hHeld=>?_)
 refine rgT 0 ?_
 refine rgV 1 (.agg (attC u.at_)) (fun w' hSw=>zbu (.tmp 3) rfl w.heap.size 0 rfl hSw.s.ratt HOB.out) ?_
 refine zag (i:=2) rfl (by kernel_rfl) (by rfl) (zcj _ lo hi u.at_ hHeld.s.at_.at_ hHeld.s.here) (fun w=>by kernel_rfl) ?_
 rw [H1.out]
 rintro e w1 ⟨rfl,hb1⟩
 refine ⟨_,rfl,hHeld.on hb1,fun hHeld=>?_⟩
 refine rgN ?_
 refine rgT 3 ?_
 refine rgS 4 ?_
 refine rgS 5 ?_
 refine rgS 6 ?_
 refine rgT 7 ?_
 refine rgT 8 ?_
 refine rgS 9 ?_
 refine rgS 10 ?_
 refine rgS 11 ?_
 refine rgT 12 ?_
 refine rgT 13 ?_
 refine rgS 14 ?_
 refine rgS 15 ?_
 refine rgS 16 ?_
 refine rgS 17 ?_
 refine rgS 18 ?_
 refine rgS 19 ?_
 refine rgS 20 ?_
 refine rgS 21 ?_
 refine rgS 22 ?_
 refine rgS 23 ?_
 refine rgT 24 ?_
 refine rgT 25 ?_
 refine wpAnyH_done (by kernel_rfl) ?_ _
 go_wp2_with fail
 go_ret
 exact ⟨rfl,hHeld.s.bl⟩
theorem zrh (w:World) (lo hi:Nat) (u:UpP) (h:UpAt w lo hi u) (hh:hi≤w.heap.size) (hfit:FitU u) (hN:zaK w) (H1:Hid (zbK u.at_.ats=true)) (H2:Hid (fewT zcF (u.re.map TbP.tb)=false)) :
  Calls Tryz.prog 44 #[.agg (updC u)] w fun e w'=>e = .returned (.bool false)∧Below w.heap.size w w':=by
 have S0:=hide (UpS.start h hh)
 have Q0:Hid (UgS w (w.alloc (.cells (updC u) 49)) lo hi u):=hide ⟨S0.out,hN.below S0.out.bl⟩
 have HFT:=hide hfit
 have HOB:=hide h.ob
 clear h hfit hN S0
 go_enter Tryz.func44,Tryz.ntmps44
 go_wp2_with fail
 refine wp_region_held_drew (S:=fun z=>UgS w z lo hi u) (by kernel_rfl) Q0.out.drew (fun hHeld=>?_)
 refine rgT 0 ?_
 refine rgV 1 (.agg (attC u.at_)) (fun w' hSw=>zbu (.tmp 3) rfl w.heap.size 0 rfl hSw.s.ratt HOB.out) ?_
 refine zag (i:=2) rfl (by kernel_rfl) (by rfl) (zcj _ lo hi u.at_ hHeld.s.at_.at_ hHeld.s.here) (fun w=>by kernel_rfl) ?_
 rw [H1.out]
 rintro e w1 ⟨rfl,hb1⟩
 refine ⟨_,rfl,hHeld.on hb1,fun hHeld=>?_⟩
 refine rgN ?_
 refine rgT 3 ?_
 refine rgT 4 ?_
 refine rgK 5 (fun w' hSw=>hSw.s.c24) ?_
 refine zag (i:=6) rfl (by kernel_rfl) (by rfl) (zdG zgP _ lo hi u.rA u.rn u.rc u.re hHeld.s.at_.re hHeld.s.here HFT.out.re hHeld.n) (fun w=>by kernel_rfl) ?_
 rw [H2.out]
 rintro e w2 ⟨rfl,hb2⟩
 refine ⟨_,rfl,hHeld.on hb2,fun hHeld=>?_⟩
 refine rgN ?_
 refine rgT 7 ?_
 refine rgT 8 ?_
 refine rgS 9 ?_
 refine rgS 10 ?_
 refine rgS 11 ?_
 refine rgT 12 ?_
 refine rgT 13 ?_
 refine rgS 14 ?_
 refine rgS 15 ?_
 refine rgS 16 ?_
 refine rgS 17 ?_
 refine rgS 18 ?_
 refine rgS 19 ?_
 refine rgS 20 ?_
 refine rgS 21 ?_
 refine rgS 22 ?_
 refine rgS 23 ?_
 refine rgT 24 ?_
 refine rgT 25 ?_
 refine wpAnyH_done (by kernel_rfl) ?_ _
 go_wp2_with fail
 go_ret
 exact ⟨rfl,hHeld.s.bl⟩
theorem zrg (w:World) (lo hi:Nat) (u:UpP) (h:UpAt w lo hi u) (hh:hi≤w.heap.size) (hfit:FitU u) (hN:zaK w) (H1:Hid (zbK u.at_.ats=true)) (H2:Hid (fewT zcF (u.re.map TbP.tb)=true)) (H3:Hid (fewT (zbm false) (u.ne.map TbP.tb)=false)) :
  Calls Tryz.prog 44 #[.agg (updC u)] w fun e w'=>e = .returned (.bool false)∧Below w.heap.size w w':=by
 have S0:=hide (UpS.start h hh)
 have Q0:Hid (UgS w (w.alloc (.cells (updC u) 49)) lo hi u):=hide ⟨S0.out,hN.below S0.out.bl⟩
 have HFT:=hide hfit
 have HOB:=hide h.ob
 clear h hfit hN S0
 go_enter Tryz.func44,Tryz.ntmps44
 go_wp2_with fail
 refine wp_region_held_drew (S:=fun z=>UgS w z lo hi u) (by kernel_rfl) Q0.out.drew (fun hHeld=>?_)
 refine rgT 0 ?_
 refine rgV 1 (.agg (attC u.at_)) (fun w' hSw=>zbu (.tmp 3) rfl w.heap.size 0 rfl hSw.s.ratt HOB.out) ?_
 refine zag (i:=2) rfl (by kernel_rfl) (by rfl) (zcj _ lo hi u.at_ hHeld.s.at_.at_ hHeld.s.here) (fun w=>by kernel_rfl) ?_
 rw [H1.out]
 rintro e w1 ⟨rfl,hb1⟩
 refine ⟨_,rfl,hHeld.on hb1,fun hHeld=>?_⟩
 refine rgN ?_
 refine rgT 3 ?_
 refine rgT 4 ?_
 refine rgK 5 (fun w' hSw=>hSw.s.c24) ?_
 refine zag (i:=6) rfl (by kernel_rfl) (by rfl) (zdG zgP _ lo hi u.rA u.rn u.rc u.re hHeld.s.at_.re hHeld.s.here HFT.out.re hHeld.n) (fun w=>by kernel_rfl) ?_
 rw [H2.out]
 rintro e w2 ⟨rfl,hb2⟩
 refine ⟨_,rfl,hHeld.on hb2,fun hHeld=>?_⟩
 refine rgN ?_
 refine rgT 7 ?_
 refine rgT 8 ?_
 refine rgT 9 ?_
 refine rgK 10 (fun w' hSw=>hSw.s.c25) ?_
 refine zag (i:=11) rfl (by kernel_rfl) (by rfl) (zdG zje _ lo hi u.nA u.nn u.nc u.ne hHeld.s.at_.ne hHeld.s.here HFT.out.ne hHeld.n) (fun w=>by kernel_rfl) ?_
 rw [H3.out]
 rintro e w3 ⟨rfl,hb3⟩
 refine ⟨_,rfl,hHeld.on hb3,fun hHeld=>?_⟩
 refine rgN ?_
 refine rgT 12 ?_
 refine rgT 13 ?_
 refine rgS 14 ?_
 refine rgS 15 ?_
 refine rgS 16 ?_
 refine rgS 17 ?_
 refine rgS 18 ?_
 refine rgS 19 ?_
 refine rgS 20 ?_
 refine rgS 21 ?_
 refine rgS 22 ?_
 refine rgS 23 ?_
 refine rgT 24 ?_
 refine rgT 25 ?_
 refine wpAnyH_done (by kernel_rfl) ?_ _
 go_wp2_with fail
 go_ret
 exact ⟨rfl,hHeld.s.bl⟩
theorem zrf (w:World) (lo hi:Nat) (u:UpP) (h:UpAt w lo hi u) (hh:hi≤w.heap.size) (hfit:FitU u) (hN:zaK w) (H1:Hid (zbK u.at_.ats=true)) (H2:Hid (fewT zcF (u.re.map TbP.tb)=true)) (H3:Hid (fewT (zbm false) (u.ne.map TbP.tb)=true)) (hr:(0:Int)<(u.rn:Int)) :
  Calls Tryz.prog 44 #[.agg (updC u)] w fun e w'=>e = .returned (.bool true)∧Below w.heap.size w w':=by
 have S0:=hide (UpS.start h hh)
 have Q0:Hid (UgS w (w.alloc (.cells (updC u) 49)) lo hi u):=hide ⟨S0.out,hN.below S0.out.bl⟩
 have HFT:=hide hfit
 have HOB:=hide h.ob
 clear h hfit hN S0
 go_enter Tryz.func44,Tryz.ntmps44
 go_wp2_with fail
 refine wp_region_held_drew (S:=fun z=>UgS w z lo hi u) (by kernel_rfl) Q0.out.drew (fun hHeld=>?_)
 refine rgT 0 ?_
 refine rgV 1 (.agg (attC u.at_)) (fun w' hSw=>zbu (.tmp 3) rfl w.heap.size 0 rfl hSw.s.ratt HOB.out) ?_
 refine zag (i:=2) rfl (by kernel_rfl) (by rfl) (zcj _ lo hi u.at_ hHeld.s.at_.at_ hHeld.s.here) (fun w=>by kernel_rfl) ?_
 rw [H1.out]
 rintro e w1 ⟨rfl,hb1⟩
 refine ⟨_,rfl,hHeld.on hb1,fun hHeld=>?_⟩
 refine rgN ?_
 refine rgT 3 ?_
 refine rgT 4 ?_
 refine rgK 5 (fun w' hSw=>hSw.s.c24) ?_
 refine zag (i:=6) rfl (by kernel_rfl) (by rfl) (zdG zgP _ lo hi u.rA u.rn u.rc u.re hHeld.s.at_.re hHeld.s.here HFT.out.re hHeld.n) (fun w=>by kernel_rfl) ?_
 rw [H2.out]
 rintro e w2 ⟨rfl,hb2⟩
 refine ⟨_,rfl,hHeld.on hb2,fun hHeld=>?_⟩
 refine rgN ?_
 refine rgT 7 ?_
 refine rgT 8 ?_
 refine rgT 9 ?_
 refine rgK 10 (fun w' hSw=>hSw.s.c25) ?_
 refine zag (i:=11) rfl (by kernel_rfl) (by rfl) (zdG zje _ lo hi u.nA u.nn u.nc u.ne hHeld.s.at_.ne hHeld.s.here HFT.out.ne hHeld.n) (fun w=>by kernel_rfl) ?_
 rw [H3.out]
 rintro e w3 ⟨rfl,hb3⟩
 refine ⟨_,rfl,hHeld.on hb3,fun hHeld=>?_⟩
 refine rgN ?_
 refine rgT 12 ?_
 refine rgT 13 ?_
 refine rgT 14 ?_
 refine rgK 15 (fun w' hSw=>hSw.s.c24) ?_
 refine rgT 16 ?_
 refine rgV 17 (.bool true) ?_ ?_
 ·(intro w' hSw;(try dsimp only at hSw);go_simp <;> first | rfl | omega)
 refine rgT 18 ?_
 refine rgS 19 ?_
 refine rgS 20 ?_
 refine rgS 21 ?_
 refine rgS 22 ?_
 refine rgT 23 ?_
 refine rgT 24 ?_
 refine rgT 25 ?_
 refine wpAnyH_done (by kernel_rfl) ?_ _
 go_wp2_with fail
 go_ret
 exact ⟨rfl,hHeld.s.bl⟩
theorem zre (w:World) (lo hi:Nat) (u:UpP) (h:UpAt w lo hi u) (hh:hi≤w.heap.size) (hfit:FitU u) (hN:zaK w) (H1:Hid (zbK u.at_.ats=true)) (H2:Hid (fewT zcF (u.re.map TbP.tb)=true)) (H3:Hid (fewT (zbm false) (u.ne.map TbP.tb)=true)) (hr:¬ (0:Int)<(u.rn:Int)) :
  Calls Tryz.prog 44 #[.agg (updC u)] w fun e w'=>e = .returned (.bool (zcV u.at_.ats zkp))∧Below w.heap.size w w':=by
 have S0:=hide (UpS.start h hh)
 have Q0:Hid (UgS w (w.alloc (.cells (updC u) 49)) lo hi u):=hide ⟨S0.out,hN.below S0.out.bl⟩
 have HFT:=hide hfit
 have HOB:=hide h.ob
 clear h hfit hN S0
 go_enter Tryz.func44,Tryz.ntmps44
 go_wp2_with fail
 refine wp_region_held_drew (S:=fun z=>UgS w z lo hi u) (by kernel_rfl) Q0.out.drew (fun hHeld=>?_)
 refine rgT 0 ?_
 refine rgV 1 (.agg (attC u.at_)) (fun w' hSw=>zbu (.tmp 3) rfl w.heap.size 0 rfl hSw.s.ratt HOB.out) ?_
 refine zag (i:=2) rfl (by kernel_rfl) (by rfl) (zcj _ lo hi u.at_ hHeld.s.at_.at_ hHeld.s.here) (fun w=>by kernel_rfl) ?_
 rw [H1.out]
 rintro e w1 ⟨rfl,hb1⟩
 refine ⟨_,rfl,hHeld.on hb1,fun hHeld=>?_⟩
 refine rgN ?_
 refine rgT 3 ?_
 refine rgT 4 ?_
 refine rgK 5 (fun w' hSw=>hSw.s.c24) ?_
 refine zag (i:=6) rfl (by kernel_rfl) (by rfl) (zdG zgP _ lo hi u.rA u.rn u.rc u.re hHeld.s.at_.re hHeld.s.here HFT.out.re hHeld.n) (fun w=>by kernel_rfl) ?_
 rw [H2.out]
 rintro e w2 ⟨rfl,hb2⟩
 refine ⟨_,rfl,hHeld.on hb2,fun hHeld=>?_⟩
 refine rgN ?_
 refine rgT 7 ?_
 refine rgT 8 ?_
 refine rgT 9 ?_
 refine rgK 10 (fun w' hSw=>hSw.s.c25) ?_
 refine zag (i:=11) rfl (by kernel_rfl) (by rfl) (zdG zje _ lo hi u.nA u.nn u.nc u.ne hHeld.s.at_.ne hHeld.s.here HFT.out.ne hHeld.n) (fun w=>by kernel_rfl) ?_
 rw [H3.out]
 rintro e w3 ⟨rfl,hb3⟩
 refine ⟨_,rfl,hHeld.on hb3,fun hHeld=>?_⟩
 refine rgN ?_
 refine rgT 12 ?_
 refine rgT 13 ?_
 refine rgT 14 ?_
 refine rgK 15 (fun w' hSw=>hSw.s.c24) ?_
 refine rgT 16 ?_
 refine rgV 17 (.bool false) ?_ ?_
 ·(intro w' hSw;(try dsimp only at hSw);go_simp <;> first | rfl | omega)
 refine rgT 18 ?_
 refine rgT 19 ?_
 refine rgV 20 (.agg (attC u.at_)) (fun w' hSw=>zbu (.tmp 22) rfl w.heap.size 0 rfl hSw.s.ratt HOB.out) ?_
 refine zag (i:=21) rfl (by kernel_rfl) (by rfl) (zmH _) (fun w=>by kernel_rfl) ?_
 rintro e w4 ⟨rfl,hb4⟩
 refine ⟨_,rfl,hHeld.on hb4,fun hHeld=>?_⟩
 refine rgN ?_
 refine zag (i:=22) rfl (by kernel_rfl) (by rfl) (zms w4 lo hi w4.heap.size w4.heap.size u.at_ zhO hHeld.s.at_.at_ (zpq _ _ _) hHeld.s.here (Nat.le_refl _) (HFT.out.at_ H1.out)) (fun w=>by kernel_rfl) ?_
 rintro e w5 ⟨rfl,hb5⟩
 refine ⟨_,rfl,hHeld.on hb5,fun hHeld=>?_⟩
 refine rgN ?_
 refine rgT 23 ?_
 refine rgT 24 ?_
 refine rgT 25 ?_
 refine wpAnyH_done (by kernel_rfl) ?_ _
 go_wp2_with fail
 go_ret
 exact ⟨by rw [zrE];cases zcV u.at_.ats zkp <;> rfl,hHeld.s.bl⟩
theorem zie (w:World) (lo hi:Nat) (u:UpP) (h:UpAt w lo hi u) (hh:hi≤w.heap.size) (hfit:FitU u) (hN:zaK w) :
  Calls Tryz.prog 44 #[.agg (updC u)] w fun e w'=>e = .returned (.bool (zck u.up))∧Below w.heap.size w w':=by
 have hl:(u.re.map TbP.tb).length=u.rn:=by rw [List.length_map,h.re.len]
 have e:zck u.up=(zbK u.at_.ats&&(fewT zcF (u.re.map TbP.tb)&&(fewT (zbm false) (u.ne.map TbP.tb)&&(decide (0<u.rn)||zcV u.at_.ats zkp)))):=by rw [← hl];rfl
 rw [e]
 cases h1:zbK u.at_.ats
 ·exact zri w lo hi u h hh hfit hN (hide h1)
 ·cases h2:fewT zcF (u.re.map TbP.tb)
  ·exact zrh w lo hi u h hh hfit hN (hide h1) (hide h2)
  ·cases h3:fewT (zbm false) (u.ne.map TbP.tb)
   ·exact zrg w lo hi u h hh hfit hN (hide h1) (hide h2) (hide h3)
   ·by_cases hr:0<u.rn
    ·rw [decide_eq_true hr]
     exact zrf w lo hi u h hh hfit hN (hide h1) (hide h2) (hide h3) (by omega)
    ·rw [decide_eq_false hr]
     exact zre w lo hi u h hh hfit hN (hide h1) (hide h2) (hide h3) (by omega)
end
section
open Go.RowKit
abbrev zTb:Array Value:=#[.int .i64 0,.int .i64 0,.int .i64 0,.int .u8 0,.int .u8 0,.int .u8 0,.int .u8 0,.int .u8 0,.int .u8 0,.int .u8 0,.int .u8 0,.int .u8 0,.int .u8 0,.int .u8 0,.int .u8 0,.int .u8 0,.int .u8 0,.int .u8 0,.int .u8 0,.slice none 0 0,.slice none 0 0]
def rawRe (t:Tb):Rw:=⟨128,14,valT true t⟩
def zrr (t:Tb):Rw:=⟨128,15,valT false t⟩
def preR (a:Ats) (l:List Tb) (k:Nat):List Rw:=if k=0 then [] else zdW a++(l.take k).map rawRe
def zbc (u:Up):List Rw:=preR u.at_ u.re u.re.length++u.un.map zrr
structure UkS (w y:World) (lo hi:Nat) (u:UpP):Prop where
 s:UpS w y lo hi u
 n:zaK y
 k:zfd y
section
variable {w y z:World} {lo hi:Nat} {u:UpP}
theorem UkS.on (h:UkS w y lo hi u) (hb:Below y.heap.size y z):UkS w z lo hi u:=⟨h.s.on hb,h.n.below hb,h.k.below hb⟩
end
structure AtW (w y:World) (base lo hi:Nat) (u:UpP) (v:Value) (xs:List RawP) (rs:List Rw):Prop where
 o:za5 y base 179 5 v xs
 r:xs.map RawP.raw=rs
 s:UpS w y lo hi u
 b:base≤y.heap.size
 n:zaK w
 k:zfd w
section
variable {w y z:World} {base lo hi:Nat} {u:UpP} {v:Value} {xs:List RawP} {rs:List Rw}
theorem AtW.on (h:AtW w y base lo hi u v xs rs) (hb:Below y.heap.size y z):AtW w z base lo hi u v xs rs :=
 ⟨h.o.over hb,h.r,h.s.on hb,Nat.le_trans h.b hb.size,h.n,h.k⟩
theorem AtW.ny (h:AtW w y base lo hi u v xs rs):zaK y:=h.n.below h.s.bl
theorem AtW.ky (h:AtW w y base lo hi u v xs rs):zfd y:=h.k.below h.s.bl
theorem AtW.push (h:AtW w y base lo hi u v xs rs) (hbw:w.heap.size<base) (hq:xs.length≤1000) (F K:Int) (A:Option Addr) (c:Nat) (b:List UInt8) (ho:y.ownsRow base 5 1 (.slice A b.length c) b.length (bvs b)) (hf:∀ g,(Value.slice A b.length c).ownBlock=some g→¬ zhG v xs g) :
  ∃ v' w' xs',(Builtin.append_ #[132,132] 132 #[v,.slice (some ⟨y.heap.size,0,none⟩) 1 1]).run Tryz.prog (y.alloc (.cells (rawC ⟨F,K,A,b.length,c,b⟩) 179)) = .ok v' w'∧AtW w w' base lo hi u v' xs' (rs++[⟨F,K,b⟩])∧xs'.length=xs.length+1∧Below w.heap.size w w':=by
 have HW4:Below y.heap.size y (y.alloc (.cells (rawC ⟨F,K,A,b.length,c,b⟩) 179)):=(Below.refl _ _).alloc (Nat.le_refl _) _
 obtain ⟨v5,w5,hrun,ho5,hg5,hat5⟩:=zkg (y.alloc (.cells (rawC ⟨F,K,A,b.length,c,b⟩) 179)) base 132 v xs (h.o.over HW4) ⟨F,K,A,b.length,c,b⟩ (zb7 ho HW4) hf _ _ _ 1 (AtG.one (Blk.new y 179 (rawC ⟨F,K,A,b.length,c,b⟩))) (by omega) (Nat.le_trans h.b HW4.size)
 have hr:∀ k,v.ownBlock=some k→w.heap.size<k:=fun k hk=>by have h1:=(h.o.lt k (.inl hk)).1;omega
 have S5:=(h.s.on HW4).grown hg5 hr
 exact ⟨v5,w5,_,hrun,⟨ho5,by rw [List.map_append,h.r];rfl,S5,Nat.le_trans h.b (Nat.le_trans HW4.size hg5.size),h.n,h.k⟩,by rw [List.length_append];rfl,S5.bl⟩
end
theorem zrw (a:Ats) (l:List Tb) (k:Nat) (h:l.length≤1):(preR a l k).length≤9:=by
 unfold preR
 split
 ·simp
 ·have h1:=zep a 8
  rw [zfV] at h1
  rw [List.length_append,List.length_map,List.length_take]
  omega
theorem zp3 {ok:Tb→Bool} {l:List TbP} (h:fewT ok (l.map TbP.tb)=true):l.length≤1∧∀ x∈l,ok x.tb=true:=by
 unfold fewT at h
 rw [Bool.and_eq_true,List.length_map] at h
 exact ⟨of_decide_eq_true h.1,fun x hx=>List.all_eq_true.1 h.2 _ (List.mem_map.2 ⟨x,hx,rfl⟩)⟩
theorem zln {u:UpP} (h:zck u.up=true):zbK u.at_.ats=true∧(u.re.length≤1∧∀ x∈u.re,zbm true x.tb=true)∧(u.ne.length≤1∧∀ x∈u.ne,zbm false x.tb=true):=by
 unfold zck at h
 simp only [Bool.and_eq_true] at h
 obtain ⟨h1,h2,h3,_⟩:=h
 have g2:=zp3 (l:=u.re) h2
 have g3:=zp3 (l:=u.ne) h3
 refine ⟨h1,⟨g2.1,fun x hx=>?_⟩,g3⟩
 have h4:=g2.2 x hx
 unfold zcF at h4
 rw [Bool.and_eq_true] at h4
 exact h4.1
def unR (P:List Rw) (l:List Tb) (k:Nat):List Rw:=P++(l.take k).map zrr
theorem ziO (P:List Rw) (l:List Tb):unR P l 0=P:=by unfold unR;simp
theorem zsS (P:List Rw) {l:List TbP} {x:TbP} (h:l[0]?=some x):unR P (l.map TbP.tb) 1=P++[⟨128,15,valT false x.tb⟩]:=by
 unfold unR
 cases l with
 | nil=>simp at h
 | cons y r =>
  have e:y=x:=by simpa using h
  subst e
  rfl
theorem zsT {P:List Rw} {l:List TbP} {n:Nat} (h:l.length=n):unR P (l.map TbP.tb) n=P++(l.map TbP.tb).map zrr:=by
 unfold unR
 rw [List.take_of_length_le (by rw [List.length_map];omega)]
theorem zo9 (a:Ats) (l:List Tb):(preR a l 0).length≤20:=by unfold preR;simp
theorem zrv (a:Ats) {l:List TbP} {x:TbP} (h:l[0]?=some x):preR a (l.map TbP.tb) 1=zdW a++[⟨128,14,valT true x.tb⟩]:=by
 unfold preR
 rw [if_neg (by decide)]
 cases l with
 | nil=>simp at h
 | cons y r =>
  have e:y=x:=by simpa using h
  subst e
  rfl
theorem zrp {xs:List RawP} {a:Ats} (h:xs.map RawP.raw=zdW a):xs.length≤8:=by
 have h1:=congrArg List.length h
 rw [List.length_map] at h1
 have h2:=zep a 8
 rw [zfV] at h2
 omega
set_option maxRecDepth 20000 in
set_option maxHeartbeats 4000000 in
theorem zh6 (w:World) (lo hi:Nat) (u:UpP) (h:UpAt w lo hi u) (hh:hi≤w.heap.size) (hfit:FitU u) (hN:zaK w) (hK:zfd w) (hr:zck u.up=true) :
  Calls Tryz.prog 74 #[.agg (updC u)] w fun e w'=>∃ v xs,e = .returned v∧za5 w' w.heap.size 179 5 v xs∧xs.map RawP.raw=zbc u.up∧Below w.heap.size w w':=by
 obtain ⟨r1,r2,r3⟩:=zln hr
 obtain ⟨P0,rA,rn,rc,re,nA,nn,nc,ne⟩:=u
 have S0:=hide (UpS.start h hh)
 have HOB:P0.ob.length=16:=h.ob
 have HFT:=hide hfit
 have HNM:=hide hN
 have HKN:=hide hK
 have R1:=hide r1
 have R2:=hide r2
 have R3:=hide r3
 have HLR:Hid (re.length=rn):=hide h.re.len
 have HLN:Hid (ne.length=nn):=hide h.ne.len
 have hrn:rn≤1:=by rw [← HLR.out];exact r2.1
 have hnn:nn≤1:=by rw [← HLN.out];exact r3.1
 have c24:=S0.out.c24
 obtain ⟨base,hbase⟩:∃ base,(w.alloc (.cells (updC ⟨P0,rA,rn,rc,re,nA,nn,nc,ne⟩) 49)).heap.size=base:=⟨_,rfl⟩
 have hbw:w.heap.size<base:=by rw [← hbase];simp
 have HBS:=hide hbase
 clear h hfit hN hK hr r1 r2 r3 hbase
 go_enter Tryz.func74,Tryz.ntmps74
 go_wp2_with fail
 go_loopw [3,11] (fun v i wr=>∃ (k q c:Nat) (B:Option Addr) (xs:List RawP),k≤rn∧v = .slice B q c∧i = .int .i64 k∧xs.length=q∧AtW w wr base lo hi (⟨P0,rA,rn,rc,re,nA,nn,nc,ne⟩:UpP) (.slice B q c) xs (preR P0.ats (re.map TbP.tb) k)) (fun _ i _=>rn-(intOf i).toNat)
 case atStart=>exact ⟨0,0,0,none,[],Nat.zero_le _,rfl,rfl,rfl,⟨za5.nil _ _ _ _,rfl,S0.out,by rw [HBS.out];exact Nat.le_refl _,HNM.out,HKN.out⟩⟩
 case round =>
  obtain ⟨k,q,c,B,xs,hk,rfl,rfl,hql,hat⟩:=hrel
  have HA:=hide hat
  have HQL:=hide hql
  clear hat hql
  by_cases hlt:k<rn
  ·obtain rfl:k=0:=by omega
   have hkl:((0:Nat):Int)<(rn:Int):=by omega
   obtain ⟨b,o,x,rfl,hb1,hb2,hx,hat⟩:=HA.out.s.at_.re.row.at_ (sz:=21) (fun y hy=>zjP (HA.out.s.at_.re.sz y hy)) hlt
   have hmem:=List.mem_of_getElem? hx
   have HM:=hide (HA.out.s.at_.re.mem x hmem)
   have HW:=hide (HA.out.s.at_.re.sz x hmem)
   have XN:=hide (zcG HW.out)
   have XF:=hide (HFT.out.re x hmem)
   have XR:=hide (R2.out.2 x hmem)
   have HX:=hide hx
   rw [Nat.zero_mul,Nat.add_zero] at hat
   have HAT:=hide hat
   have NEW:=hide (Blk.new wr 115 zTb)
   have HQ9:=hide (show q≤20 by have h1:=HA.out.r;have h2:=congrArg List.length h1;rw [List.length_map,HQL.out] at h2;rw [h2];exact zo9 _ _)
   clear hx hat hmem
   go_wp2_with (first
    | ((with_reducible refine zay ?_ (.tmp 13) rfl b o rfl x HAT.out XN.out ?_);· rfl)
    | (refine zb1 rfl (.tmp 5) (.tmp 14) rfl wr.heap.size rfl x rfl XN.out NEW.out rfl ?_;intro w2 hb2 hg2;have B2:=hide hb2;have W2:Hid (Below wr.heap.size wr w2):=hide (((Below.refl _ _).alloc (Nat.le_refl _) _).grown hg2 (by simp) (by simp));clear hb2 hg2;refine Hid.out ?_))
   refine hide ?_
   have A2:=hide (HA.out.on W2.out)
   have M2:=hide (mkTb _ _ _ _ _ (fun p _ hp=>W2.out.cell (by have:=HA.out.s.here;omega)) HM.out)
   clear NEW HA HM HAT
   have RA:=hide A2.out.s.ratt
   go_wp2_with ((with_reducible refine zbl ?_ (.tmp 16) rfl w.heap.size 0 rfl RA.out HOB ?_);· rfl)
   refine (zn9 w2 lo hi P0 A2.out.s.at_.at_ A2.out.s.here A2.out.ky R1.out).mono ?_
   rintro e w3 ⟨v3,xs3,rfl,ho3,hr3,hb3⟩
   have A3:Hid (AtW w w3 base lo hi (⟨P0,some ⟨b,o,none⟩,rn,rc,re,nA,nn,nc,ne⟩:UpP) v3 xs3 (zdW P0.ats)):=hide ⟨ho3.more A2.out.b,hr3,A2.out.s.on hb3,Nat.le_trans A2.out.b hb3.size,HNM.out,HKN.out⟩
   have L3:=hide (zrp hr3)
   have M3:=hide (mkTb _ _ _ _ _ (fun p _ hp=>hb3.cell (by have:=A2.out.s.here;omega)) M2.out)
   have B3:=hide (B2.out.over hb3)
   obtain ⟨B9,c3,rfl,_,_⟩:=A3.out.o.shape
   clear ho3 hr3 hb3 A2 M2 B2 RA
   have RB:=hide (zaj (l:=tbL x) B3.out)
   go_wp2_with ((with_reducible refine zay ?_ (.tmp 5) rfl wr.heap.size 0 rfl x RB.out XN.out ?_);· rfl)
   refine (zgZ _ lo hi x true M3.out HW.out A3.out.s.here XF.out A3.out.ny XR.out).mono ?_
   rintro e w5 ⟨v5,rfl,ho5,hb5⟩
   obtain ⟨A9,c9,rfl,_,_⟩:=zac ho5
   have A5:=hide (A3.out.on hb5)
   obtain ⟨v7,w7,xs7,hrun,hat7,hl7,hb7⟩:=A5.out.push hbw (by have:=L3.out;omega) 128 14 A9 c9 (valT true x.tb) (zaC ho5 A3.out.b) (fun g hg hbk=>by have h1:=(A3.out.o.lt g hbk).2;have h2:=(ho5.lt g hg).1;omega)
   have HRUN:=hide hrun
   have A7:=hide hat7
   have L7:=hide hl7
   clear hrun hat7 hl7 hb7 ho5 hb5 A3 A5 M3 B3 RB
   go_wp2_with (first
    | (with_reducible refine zch rfl (.tmp 24) rfl ⟨128,14,A9,(valT true x.tb).length,c9,valT true x.tb⟩ rfl ?_)
    | (at_builtin;refine zb4 rfl (.tmp 21) (.tmp 25) 132 132 132 rfl rfl rfl rfl HRUN.out ?_;refine Hid.out ?_))
   refine hide ?_
   obtain ⟨B7,c7,rfl,_,_⟩:=A7.out.o.shape
   go_wp2
   go_roundw
   case rel=>exact ⟨1,xs7.length,c7,B7,xs7,hlt,rfl,by go_num,rfl,by have:=A7.out;rw [zrv _ HX.out];exact this⟩
   case measure=>simp [intOf];omega
  ·obtain rfl:k=rn:=by omega
   have hkl:¬ ((k:Nat):Int)<(k:Int):=by omega
   obtain ⟨P1,hP1⟩:∃ P1,preR P0.ats (re.map TbP.tb) k=P1:=⟨_,rfl⟩
   have HP1:=hide hP1
   have PRL:Hid ((unR P1 (ne.map TbP.tb) 0).length≤20):=hide (by rw [ziO,← hP1];have:=zrw P0.ats (re.map TbP.tb) k (by rw [List.length_map];exact R2.out.1);omega)
   have k25:=HA.out.s.c25
   clear hP1
   go_wp2_with fail
   go_loopw [3,31] (fun v i wr=>∃ (j q c:Nat) (B:Option Addr) (xs:List RawP),j≤nn∧v = .slice B q c∧i = .int .i64 j∧xs.length=q∧AtW w wr base lo hi (⟨P0,rA,k,rc,re,nA,nn,nc,ne⟩:UpP) (.slice B q c) xs (unR P1 (ne.map TbP.tb) j)) (fun _ i _=>nn-(intOf i).toNat)
   case atStart=>exact ⟨0,q,c,B,xs,Nat.zero_le _,rfl,rfl,HQL.out,by have:=HA.out;rw [HP1.out] at this;rw [ziO];exact this⟩
   case round =>
    obtain ⟨j,q,c,B,xs,hj,rfl,rfl,hql,hat⟩:=hrel
    have HA:=hide hat
    have HQL:=hide hql
    clear hat hql
    by_cases hlt:j<nn
    ·obtain rfl:j=0:=by omega
     have hkl:((0:Nat):Int)<(nn:Int):=by omega
     obtain ⟨b,o,x,rfl,hb1,hb2,hx,hat⟩:=HA.out.s.at_.ne.row.at_ (sz:=21) (fun y hy=>zjP (HA.out.s.at_.ne.sz y hy)) hlt
     have hmem:=List.mem_of_getElem? hx
     have HM:=hide (HA.out.s.at_.ne.mem x hmem)
     have HW:=hide (HA.out.s.at_.ne.sz x hmem)
     have XN:=hide (zcG HW.out)
     have XF:=hide (HFT.out.ne x hmem)
     have XR:=hide (R3.out.2 x hmem)
     have HX:=hide hx
     rw [Nat.zero_mul,Nat.add_zero] at hat
     have HAT:=hide hat
     have NEW:=hide (Blk.new wr 115 zTb)
     have HQ9:=hide (show q≤20 by have h1:=HA.out.r;have h2:=congrArg List.length h1;rw [List.length_map,HQL.out] at h2;rw [h2];exact PRL.out)
     clear hx hat hmem
     go_wp2_with (first
      | ((with_reducible refine zay ?_ (.tmp 33) rfl b o rfl x HAT.out XN.out ?_);· rfl)
      | (refine zb1 rfl (.tmp 7) (.tmp 34) rfl wr.heap.size rfl x rfl XN.out NEW.out rfl ?_;intro w2 hb2 hg2;have B2:=hide hb2;have W2:Hid (Below wr.heap.size wr w2):=hide (((Below.refl _ _).alloc (Nat.le_refl _) _).grown hg2 (by simp) (by simp));clear hb2 hg2;refine Hid.out ?_))
     refine hide ?_
     have A2:=hide (HA.out.on W2.out)
     have M2:=hide (mkTb _ _ _ _ _ (fun p _ hp=>W2.out.cell (by have:=HA.out.s.here;omega)) HM.out)
     clear NEW HA HM HAT
     have A3:=hide A2.out
     have M3:=hide M2.out
     have B3:=hide B2.out
     clear A2 M2 B2
     have RB:=hide (zaj (l:=tbL x) B3.out)
     go_wp2_with ((with_reducible refine zay ?_ (.tmp 7) rfl wr.heap.size 0 rfl x RB.out XN.out ?_);· rfl)
     refine (zgZ _ lo hi x false M3.out HW.out A3.out.s.here XF.out A3.out.ny XR.out).mono ?_
     rintro e w5 ⟨v5,rfl,ho5,hb5⟩
     obtain ⟨A9,c9,rfl,_,_⟩:=zac ho5
     have A5:=hide (A3.out.on hb5)
     obtain ⟨v7,w7,xs7,hrun,hat7,hl7,hb7⟩:=A5.out.push hbw (by rw [HQL.out];have:=HQ9.out;omega) 128 15 A9 c9 (valT false x.tb) (zaC ho5 A3.out.b) (fun g hg hbk=>by have h1:=(A3.out.o.lt g hbk).2;have h2:=(ho5.lt g hg).1;omega)
     have HRUN:=hide hrun
     have A7:=hide hat7
     have L7:=hide hl7
     clear hrun hat7 hl7 hb7 ho5 hb5 A3 A5 M3 B3 RB
     go_wp2_with (first
      | (with_reducible refine zch rfl (.tmp 38) rfl ⟨128,15,A9,(valT false x.tb).length,c9,valT false x.tb⟩ rfl ?_)
      | (at_builtin;refine zb4 rfl (.tmp 35) (.tmp 39) 132 132 132 rfl rfl rfl rfl HRUN.out ?_;refine Hid.out ?_))
     refine hide ?_
     obtain ⟨B7,c7,rfl,_,_⟩:=A7.out.o.shape
     go_wp2
     go_roundw
     case rel=>exact ⟨1,xs7.length,c7,B7,xs7,hlt,rfl,by go_num,rfl,by have:=A7.out;rw [zsS _ HX.out];rwa [ziO] at this⟩
     case measure=>simp [intOf];omega
    ·obtain rfl:j=nn:=by omega
     have hkl:¬ ((j:Nat):Int)<(j:Int):=by omega
     go_wp2
     go_ret
     exact ⟨_,rfl,xs,HA.out.o.more (by omega),by rw [HA.out.r,← HP1.out,zsT HLN.out];unfold zbc;rw [show (UpP.up ⟨P0,rA,k,rc,re,nA,j,nc,ne⟩).re.length=k by show (re.map TbP.tb).length=k;rw [List.length_map];exact HLR.out];rfl,HA.out.s.bl⟩
end
section
open Go.RowKit
def ziy (u:Up):List UInt8:=0::0::(be 2 (ze6 (zbc u)).length++ze6 (zbc u))
def zdu (u:Up):Int:=if zck u=false then 1 else if zeA (zbc u)≠0 then zeA (zbc u) else if 4077<4+(ze6 (zbc u)).length then 2 else 0
def zd6 (u:Up):List UInt8:=if zdu u=0 then ziy u else []
def zjH (w:World) (u:Up) (e:Ending) (w':World):Prop :=
 ∃ v,e = .returned (.tuple #[v,.int .i64 (zdu u)])∧w'.ownsRow w.heap.size 5 1 v (zd6 u).length (bvs (zd6 u))∧Below w.heap.size w w'
theorem zlR (l:List Rw):(ze6 l).length≤262400:=by
 unfold ze6
 split
 ·rename_i h
  unfold zeA at h
  split at h
  ·cases h
  ·have h1:=zfb h
   have h2:l.length*4100≤64*4100:=Nat.mul_le_mul_right _ (by omega)
   omega
 ·simp
theorem zma {w w':World} {u:Up} {k:Int} (h:zdu u=k) (hk:k≠0) (hb:Below w.heap.size w w'):zjH w u (.returned (.tuple #[.slice none 0 0,.int .i64 k])) w':=by
 have e:zd6 u=[]:=if_neg (by rw [h];exact hk)
 refine ⟨.slice none 0 0,by rw [h],?_,hb⟩
 rw [e]
 exact World.ownsRow_nil _ _ _ _
set_option maxRecDepth 20000 in
set_option maxHeartbeats 2000000 in
theorem zop (w:World) (lo hi:Nat) (u:UpP) (h:UpAt w lo hi u) (hh:hi≤w.heap.size) (hfit:FitU u) (hN:zaK w) (hK:zfd w) :
  Calls Tryz.prog 48 #[.agg (updC u)] w (zjH w u.up):=by
 obtain ⟨i0,hi0,hz0,hz1,hz2⟩:=info_parts za4
 have Q0:Hid (UkS w (w.alloc (.cells (updC u) 49)) lo hi u):=hide ⟨UpS.start h hh,hN.below ((Below.refl _ _).alloc (Nat.le_refl _) _),hK.below ((Below.refl _ _).alloc (Nat.le_refl _) _)⟩
 have HOB:=h.ob
 have HFT:=hide hfit
 have RG0:=hide Q0.out.s.rng
 obtain ⟨r,hr⟩:∃ r,zck u.up=r:=⟨_,rfl⟩
 have HR:=hide hr
 clear h hfit hN hK hr
 go_enter Tryz.func48,Tryz.ntmps48
 go_wp2_with ((with_reducible refine zdZ ?_ (.tmp 1) rfl w.heap.size 0 rfl u RG0.out HOB ?_);· rfl)
 refine (zie _ lo hi u Q0.out.s.at_ Q0.out.s.here HFT.out Q0.out.n).mono ?_
 rw [HR.out]
 rintro e w1 ⟨rfl,hb1⟩
 have Q1:=hide (Q0.out.on hb1)
 have RG1:=hide Q1.out.s.rng
 clear hb1 Q0 RG0
 cases r
 ·have HE:Hid (zdu u.up=1):=hide (if_pos HR.out)
  go_wp2
  go_ret2
  exact zma HE.out (by decide) Q1.out.s.bl
 ·go_wp2_with ((with_reducible refine zdZ ?_ (.tmp 1) rfl w.heap.size 0 rfl u RG1.out HOB ?_);· rfl)
  refine (zh6 w1 lo hi u Q1.out.s.at_ Q1.out.s.here HFT.out Q1.out.n Q1.out.k HR.out).mono ?_
  rintro e w2 ⟨v2,xs,rfl,ho2,hr2,hb2⟩
  obtain ⟨A2,c2,rfl,_,_⟩:=ho2.shape
  have S2:=hide (Q1.out.s.on hb2)
  have X2:=hide (ho2.at_ (n:=xs.length) rfl)
  have RW:=hide hr2
  clear ho2 hr2 hb2 Q1 RG1
  go_wp2_with fail
  refine (zqJ w2 _ _ A2 xs.length c2 xs X2.out (Nat.le_refl _)).mono ?_
  rw [RW.out]
  rintro e w3 ⟨v3,rfl,ho3,hb3⟩
  have S3:=hide (S2.out.on hb3)
  have HJS:=hide (zlR (zbc u.up))
  have HE:Hid (zdu u.up=if zeA (zbc u.up)≠0 then zeA (zbc u.up) else if 4077<4+(ze6 (zbc u.up)).length then 2 else 0):=hide (if_neg (by rw [HR.out];decide))
  have HBD:Hid (ziy u.up=0::0::(be 2 (ze6 (zbc u.up)).length++ze6 (zbc u.up))):=hide rfl
  generalize ze6 (zbc u.up)=jb at *
  generalize zeA (zbc u.up)=je at *
  obtain ⟨A3,c3,rfl,_,_⟩:=zac ho3
  have T3:=hide (At.own ho3)
  clear ho3 hb3 S2 X2
  by_cases hj:je=0
  ·subst hj
   have HE2:Hid (zdu u.up=if 4077<4+jb.length then 2 else 0):=hide (by rw [HE.out];rfl)
   have hjI:(jb.length:Int)≤262400:=by have:=HJS.out;omega
   by_cases hl:4077<4+jb.length
   ·have hlI:(4077:Int)<4+(jb.length:Int):=by omega
    have HE3:Hid (zdu u.up=2):=hide (by rw [HE2.out,if_pos hl])
    clear HE HE2 hl
    go_wp2
    go_ret2
    exact zma HE3.out (by decide) S3.out.bl
   ·have hlI:¬ (4077:Int)<4+(jb.length:Int):=by omega
    have HE3:Hid (zdu u.up=0):=hide (by rw [HE2.out,if_neg hl])
    have HOUT:Hid (zd6 u.up=0::0::(be 2 jb.length++jb)):=hide (by unfold zd6;rw [if_pos HE3.out,HBD.out])
    have hj2:jb.length<65536:=by omega
    have Z4:=hide (zqG w3 2 5)
    have B4:Hid (Below w3.heap.size w3 (w3.alloc (.cells (madeCells #[.int .u8 0] 2) 5))):=hide ((Below.refl _ _).alloc (Nat.le_refl _) _)
    have hz4:(w3.alloc (.cells (madeCells #[.int .u8 0] 2) 5)).heap.size=w3.heap.size+1:=by simp
    clear HE HE2 hl HBD
    go_wp2_with (refine zbG rfl (.const (.int .i64 2)) (.const (.int .i64 2)) 22 rfl 5 i0 Tryz.underlying22 hi0 hz0 hz1 hz2 2 2 _ rfl rfl rfl (Nat.le_refl _) (by decide) ?_)
    refine (zdj _ _ _ (some ⟨w3.heap.size,0,none⟩) 2 2 [0,0] Z4.out (by rw [hz4];exact Nat.le_refl _) (by decide) jb.length 2 (by decide) (by decide) (by omega)).mono ?_
    rintro e w5 ⟨v5,rfl,ho5,hb5⟩
    obtain ⟨A5,c5,rfl,_,_⟩:=zac ho5
    have S5:=hide ((S3.out.on B4.out).on hb5)
    have T5:=hide ((T3.out.below B4.out).below (hb5.mono (by rw [hz4];omega)))
    have HO5:=hide (zaC ho5 (Nat.le_trans S3.out.bl.size B4.out.size))
    clear ho5 hb5 S3 Z4 T3 B4 hz4 hlI
    go_wp2_with (at_builtin;go_must (refine zad _ rfl (.tmp 31) (.tmp 32) 22 rfl w.heap.size 5 i0 Tryz.underlying22 hi0 hz0 hz1 hz2 _ (2+2) ([0,0]++be 2 jb.length) rfl HO5.out _ _ A3 jb.length c3 jb rfl T5.out (by omega) S5.out.bl.size ?_);intro v6 w6 hown6 hg6 hat6;have HO6:=hide hown6;have HG6:=hide hg6;clear hown6 hg6 hat6)
    go_ret2
    refine ⟨v6,by rw [HE3.out];rfl,?_,S5.out.bl.grown HG6.out S5.out.bl.size (fun g hg=>(HO5.out.lt g hg).1)⟩
    rw [HOUT.out]
    have h1:=HO6.out
    have h2:(0::0::(be 2 jb.length++jb)).length=2+2+jb.length:=by simp [zaW];omega
    rw [h2]
    simpa using h1
  ·have HE2:Hid (zdu u.up=je):=hide (by rw [HE.out];exact if_pos hj)
   have hjb:(je==0)=false:=beq_eq_false_iff_ne.2 hj
   have HJ:=hide hj
   have hjn:(je != 0)=true:=by rw [bne_iff_ne];exact hj
   clear HE hj
   go_wp2
   go_ret2
   exact zma HE2.out HJ.out S3.out.bl
end
section
open Go.RowKit
def itsU (u:Up):List Item:=if u.re.length=0 then [] else zjg u.at_
def rtsU (u:Up):List Rw:=u.re.map rawRe++u.un.map zrr
theorem zmc (u:Up):zbc u=(itsU u).map Item.rw++rtsU u:=by
 unfold zbc preR itsU rtsU
 by_cases h:u.re.length=0
 ·rw [if_pos h,if_pos h,List.eq_nil_of_length_eq_zero h]
  rfl
 ·rw [if_neg h,if_neg h,List.take_length]
  unfold zdW
  rw [List.append_assoc]
theorem zit {u:Up} (h:zdu u=0):zck u=true∧zeA (zbc u)=0∧(ze6 (zbc u)).length≤4073∧zd6 u=ziy u:=by
 have ho:zd6 u=ziy u:=if_pos h
 unfold zdu at h
 split at h
 ·cases h
 ·rename_i h1
  split at h
  ·rename_i h2;exact absurd h h2
  ·rename_i h2
   split at h
   ·cases h
   ·exact ⟨by cases hq:zck u;exact absurd hq h1;rfl,by simpa using h2,by omega,ho⟩
end
end Go.Proofs.YthgainmcnjldaaaGreatDoor
