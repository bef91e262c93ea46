/-
  Which tables and updates are right: isMroute, isUroute, rightRoutes, rightTable, few, Right of package update, in whatever memory. The one condition beyond sizes that fit memory: the program's tables hold what its text lays.
  The value of a table that is right: numberOf, aheadOf, nextBytes, value of package update, in whatever memory. The one condition beyond sizes that fit memory: the program's tables hold what its text lays.
-/
import Derived.Test.YtplpglfjcieloaaGreatDoorKSBE
set_option linter.unusedVariables false
set_option linter.unusedSimpArgs false
namespace Go.Proofs.YtplpglfjcieloaaGreatDoor
open Tryz
section
set_option maxRecDepth 20000
set_option maxHeartbeats 1000000
open Go.RowKit
theorem zxW (b:List UInt8) (k:Int):(zn5 b k).W:=by
 unfold zn5
 split
 ·exact ⟨rfl,rfl,rfl,rfl⟩
 ·exact zk0 b k
theorem znD {m:Mr} (w:m.W):(outB m).length≤110:=by
 unfold outB
 cases h:zbh m
 ·exact Nat.zero_le _
 ·exact zfn w h
structure FitT (x:TbP):Prop where
 m:x.mn≤1260000000000
 u:x.un≤3000000000000
 k:∀ m∈x.ms,m.key.length≤140737488351232
theorem ztp (w:World) (m:Mr) (s:Int) (hm:m.W) (hkey:m.key.length≤140737488351232) (hN:za1 w) :
  Calls prog 129 #[.agg (mroC m),.int .i64 s] w fun e w'=>e = .returned (.bool (isM s m))∧Below w.heap.size w w':=by
 have W0:=hD ((Below.refl w.heap.size w).alloc lr (.cells (mroC m) 186))
 have HB:=hD (Blk.new w 186 (mroC m))
 have HN:=hD (hN.below W0.o)
 have HM:=hD hm
 have HO:=hD (znD hm)
 have HKY:=hD hkey
 have HP:=hD (zxW (outB m) s)
 obtain ⟨r,hr⟩:∃ r,isM s m=r:=⟨_,rfl⟩
 have HR:Hid (decide (zlk (outB m) s=0)=r):=hD hr
 rw [hr]
 clear hr hm hN hkey
 go_enter func129,ntmps129
 go_wp2_with (with_reducible refine zaA rfl (.tmp 2) rfl w.heap.size rfl HB.o HM.o ?_)
 refine (zhl _ m HM.o HKY.o HN.o).mono ?_
 rintro e w1 ⟨v1,rfl,ho1,hb1⟩
 obtain ⟨A1,c1,rfl,hc1,_⟩:=zag ho1
 have AT1:=hD (At.own ho1)
 have W1:=hD (zaa W0.o hb1 lr)
 have N1:=hD (HN.o.below hb1)
 have hl1:(outB m).length≤10000000000000:=by have:=HO.o;omega
 generalize errB m=er at *
 clear ho1 hb1
 go_wp2_with fail
 refine (zqS w1 _ _ A1 _ c1 (outB m) s AT1.o lr hc1 hl1 N1.o).mono ?_
 generalize zn5 (outB m) s=pr at *
 generalize zlk (outB m) s=pe at *
 rintro e w2 ⟨rfl,hb2⟩
 have W2:=hD (zaa W1.o hb2 lr)
 have NEW:=hD (Blk.new w2 186 zMro)
 clear hb2
 go_wp2_with (refine zar rfl (.tmp 7) (.tmp 18) rfl w2.heap.size rfl (m:=pr) rfl HP.o NEW.o rfl ?_;intro w3 hb3 hg3;have W3:Hid (Below w2.heap.size w2 w3):=hD (((Below.refl _ _).alloc lr _).grown hg3 (by simp) (by simp));clear hb3 hg3;refine Hid.o ?_)
 refine hD ?_
 clear NEW
 go_wp2
 go_ret
 exact ⟨by rw [← HR.o];rfl,zaa W2.o W3.o lr⟩
theorem zto (w:World) (u:Ur) (s:Int) (hu:u.W) :
  Calls prog 132 #[.agg (uroC u),.int .i64 s] w fun e w'=>e = .returned (.bool (isU s u))∧Below w.heap.size w w':=by
 have W0:=hD ((Below.refl w.heap.size w).alloc lr (.cells (uroC u) 191))
 have HB:=hD (Blk.new w 191 (uroC u))
 have HU:=hD hu
 obtain ⟨r,hr⟩:∃ r,zbI u=r:=⟨_,rfl⟩
 have HR:=hD hr
 unfold isU
 rw [hr]
 clear hr hu
 go_enter func132,ntmps132
 go_wp2_with (with_reducible refine zbF rfl (.tmp 2) rfl w.heap.size rfl HB.o HU.o ?_)
 refine (zg5 _ u HU.o).mono ?_
 rw [HR.o]
 rintro e w1 ⟨rfl,hb1⟩
 have W1:=hD (zaa W0.o hb1 lr)
 have k8:w1.cell? ⟨w.heap.size,8,none⟩=some (.int .i64 u.s):=((HB.o.over hb1).cell 8).trans (uroC_s HU.o)
 clear hb1
 cases r
 ·go_wp2
  go_ret
  exact ⟨rfl,W1.o⟩
 ·go_wp2
  go_ret
  exact ⟨by rw [Bool.true_and];rfl,W1.o⟩
theorem zsY (w:World) (m:Mr) (s:Int) (hm:m.W) (hkey:m.key.length≤140737488351232) (hN:za1 w) (g:Nat) (c0:w.cell? ⟨g,0,none⟩=some (.int .i64 s)) :
  Calls prog 128 #[.agg (mroC m),.pointer (some ⟨g,0,none⟩)] w fun e w'=>e = .returned (.bool (!isM s m))∧Below w.heap.size w w':=by
 have W0:=hD ((Below.refl w.heap.size w).alloc lr (.cells (mroC m) 186))
 have HB:=hD (Blk.new w 186 (mroC m))
 have HM:=hD hm
 have k0:(w.alloc (.cells (mroC m) 186)).cell? ⟨g,0,none⟩=some (.int .i64 s):=(World.cell?_alloc_lt w _ _ (World.block_lt_of_cell? _ _ c0)).trans c0
 have HN:=hD (hN.below W0.o)
 have HKY:=hD hkey
 obtain ⟨r,hr⟩:∃ r,isM s m=r:=⟨_,rfl⟩
 have HR:=hD hr
 rw [hr]
 clear hr hm c0
 go_enter func128,ntmps128
 go_wp2_with (with_reducible refine zaA rfl (.tmp 2) rfl w.heap.size rfl HB.o HM.o ?_)
 refine (ztp _ m s HM.o HKY.o HN.o).mono ?_
 rw [HR.o]
 rintro e w1 ⟨rfl,hb1⟩
 go_wp2
 go_ret
 exact ⟨rfl,zaa W0.o hb1 lr⟩
theorem zor (w:World) (lo hi:Nat) (A:Option Addr) (n c:Nat) (l:List Mr) (h:AtG mroL w lo hi A n l) (hw:∀ m∈l,m.W) (hh:hi≤w.heap.size) (hn:n≤3000000000000) (hkey:∀ m∈l,m.key.length≤140737488351232) (hN:za1 w) (s:Int) (g:Nat) (c0:w.cell? ⟨g,0,none⟩=some (.int .i64 s)) :
  Calls prog 155 #[.slice A n c,.func (.func 128) #[] #[.pointer (some ⟨g,0,none⟩)]] w fun e w'=>∃ r:Int,e = .returned (.int .i64 r)∧decide (0≤r)=(!l.all (isM s))∧Below w.heap.size w w':=by
 have H:=hD h
 have HL:=hD h.len
 have HC:=hD c0
 have HW:=hD hw
 have HGS:=hD (World.block_lt_of_cell? _ _ c0)
 have HKY:=hD hkey
 have HNM:=hD hN
 clear hkey hN
 clear h c0 hw
 go_enter func155,ntmps155
 go_wp2_with fail
 go_loopw [8] (fun i wr=>∃ k:Nat,k≤n∧i = .int .i64 k∧(∀ x∈l.take k,isM s x=true)∧Below w.heap.size w wr) (fun i _=>n-(intOf i).toNat)
 case atStart=>exact ⟨0,Nat.zero_le _,rfl,(fun x hx=>by simp at hx),Below.refl _ _⟩
 case round =>
  obtain ⟨k,hk,rfl,hall,hbel⟩:=hrel
  have HA:=hD hall
  have WB:=hD hbel
  clear hall hbel
  by_cases hlt:k<n
  ·have YR:=hD (H.o.below (WB.o.mono hh))
   obtain ⟨b,o,x,rfl,_,_,hx,hat⟩:=YR.o.at_ (sz:=62) (fun y hy=>zeH (HW.o y hy)) hlt
   have hmem:=List.mem_of_getElem? hx
   have HM:=hD (HW.o x hmem)
   have XK:=hD (HKY.o x hmem)
   have N1:=hD (HNM.o.below WB.o)
   have HX:=hD hx
   have HAT:=hD hat
   have HG:=hD ((WB.o.cell (p:=⟨g,0,none⟩) HGS.o).trans HC.o)
   obtain ⟨r,hr⟩:∃ r,isM s x=r:=⟨_,rfl⟩
   have HR:=hD hr
   have hkl:((k:Nat):Int)<(n:Int):=by omega
   clear hx hat hmem hr YR
   go_wp2_with (with_reducible refine zdX rfl (.tmp 14) rfl b (o+k*62) rfl HAT.o HM.o ?_)
   refine (zsY wr x s HM.o XK.o N1.o g HG.o).mono ?_
   rw [HR.o]
   rintro e w1 ⟨rfl,hb1⟩
   have WB1:=hD (zaa WB.o hb1 lr)
   clear hb1
   cases r
   ·have HF:Hid (l.all (isM s)=false):=hD (List.all_eq_false.2 ⟨x,List.mem_of_getElem? HX.o,by rw [HR.o];decide⟩)
    go_wp2_with fail
    go_ret
    exact ⟨_,rfl,by rw [HF.o];exact decide_eq_true (by omega),WB1.o⟩
   ·have HNX:Hid (∀ y∈l.take (k+1),isM s y=true):=hD (by
     intro y hy
     rw [List.take_add_one,HX.o] at hy
     rcases List.mem_append.1 hy with hy | hy
     ·exact HA.o y hy
     ·rw [show y=x by simpa using hy];exact HR.o)
    go_wp2_with fail
    go_roundw
    case rel=>exact ⟨k+1,by omega,by go_num,HNX.o,WB1.o⟩
    case measure=>simp [intOf];omega
  ·obtain rfl:k=n:=by omega
   have HF:Hid (l.all (isM s)=true):=hD (by
    rw [List.all_eq_true]
    intro x hx
    exact HA.o x (by rw [List.take_of_length_le (by rw [HL.o];exact lr)];exact hx))
   go_wp2
   go_ret
   exact ⟨_,rfl,by rw [HF.o];rfl,WB.o⟩
theorem zj6 (w:World) (lo hi:Nat) (A:Option Addr) (n c:Nat) (l:List Mr) (h:AtG mroL w lo hi A n l) (hw:∀ m∈l,m.W) (hh:hi≤w.heap.size) (hn:n≤3000000000000) (hkey:∀ m∈l,m.key.length≤140737488351232) (hN:za1 w) (s:Int) (g:Nat) (c0:w.cell? ⟨g,0,none⟩=some (.int .i64 s)) :
  Calls prog 130 #[.slice A n c,.func (.func 128) #[] #[.pointer (some ⟨g,0,none⟩)]] w fun e w'=>e = .returned (.bool (!l.all (isM s)))∧Below w.heap.size w w':=by
 have HC:=hD (zor w lo hi A n c l h hw hh hn hkey hN s g c0)
 obtain ⟨q,hq⟩:∃ q,l.all (isM s)=q:=⟨_,rfl⟩
 have HQ:=hD hq
 rw [hq]
 clear h hw hq c0
 go_enter func130,ntmps130
 go_wp2_with fail
 refine HC.o.mono ?_
 rintro e w1 ⟨r,rfl,hr,hb1⟩
 rw [HQ.o] at hr
 cases q
 ·have h0:(0:Int)≤r:=of_decide_eq_true hr
  clear hr
  go_wp2
  go_ret
  exact ⟨rfl,hb1⟩
 ·have h0:¬ (0:Int)≤r:=of_decide_eq_false hr
  clear hr
  go_wp2
  go_ret
  exact ⟨by show Ending.returned (.bool (decide (0≤r)))=_;rw [decide_eq_false (by omega)];rfl,hb1⟩
theorem zsX (w:World) (m:Ur) (s:Int) (hm:m.W) (g:Nat) (c0:w.cell? ⟨g,0,none⟩=some (.int .i64 s)) :
  Calls prog 131 #[.agg (uroC m),.pointer (some ⟨g,0,none⟩)] w fun e w'=>e = .returned (.bool (!isU s m))∧Below w.heap.size w w':=by
 have W0:=hD ((Below.refl w.heap.size w).alloc lr (.cells (uroC m) 191))
 have HB:=hD (Blk.new w 191 (uroC m))
 have HM:=hD hm
 have k0:(w.alloc (.cells (uroC m) 191)).cell? ⟨g,0,none⟩=some (.int .i64 s):=(World.cell?_alloc_lt w _ _ (World.block_lt_of_cell? _ _ c0)).trans c0
 obtain ⟨r,hr⟩:∃ r,isU s m=r:=⟨_,rfl⟩
 have HR:=hD hr
 rw [hr]
 clear hr hm c0
 go_enter func131,ntmps131
 go_wp2_with (with_reducible refine zbF rfl (.tmp 2) rfl w.heap.size rfl HB.o HM.o ?_)
 refine (zto _ m s HM.o).mono ?_
 rw [HR.o]
 rintro e w1 ⟨rfl,hb1⟩
 go_wp2
 go_ret
 exact ⟨rfl,zaa W0.o hb1 lr⟩
theorem zoq (w:World) (lo hi:Nat) (A:Option Addr) (n c:Nat) (l:List Ur) (h:AtG uroL w lo hi A n l) (hw:∀ m∈l,m.W) (hh:hi≤w.heap.size) (hn:n≤3000000000000) (s:Int) (g:Nat) (c0:w.cell? ⟨g,0,none⟩=some (.int .i64 s)) :
  Calls prog 157 #[.slice A n c,.func (.func 131) #[] #[.pointer (some ⟨g,0,none⟩)]] w fun e w'=>∃ r:Int,e = .returned (.int .i64 r)∧decide (0≤r)=(!l.all (isU s))∧Below w.heap.size w w':=by
 have H:=hD h
 have HL:=hD h.len
 have HC:=hD c0
 have HW:=hD hw
 have HGS:=hD (World.block_lt_of_cell? _ _ c0)
 clear h c0 hw
 go_enter func157,ntmps157
 go_wp2_with fail
 go_loopw [8] (fun i wr=>∃ k:Nat,k≤n∧i = .int .i64 k∧(∀ x∈l.take k,isU s x=true)∧Below w.heap.size w wr) (fun i _=>n-(intOf i).toNat)
 case atStart=>exact ⟨0,Nat.zero_le _,rfl,(fun x hx=>by simp at hx),Below.refl _ _⟩
 case round =>
  obtain ⟨k,hk,rfl,hall,hbel⟩:=hrel
  have HA:=hD hall
  have WB:=hD hbel
  clear hall hbel
  by_cases hlt:k<n
  ·have YR:=hD (H.o.below (WB.o.mono hh))
   obtain ⟨b,o,x,rfl,_,_,hx,hat⟩:=YR.o.at_ (sz:=27) (fun y hy=>zez (HW.o y hy)) hlt
   have hmem:=List.mem_of_getElem? hx
   have HM:=hD (HW.o x hmem)
   have HX:=hD hx
   have HAT:=hD hat
   have HG:=hD ((WB.o.cell (p:=⟨g,0,none⟩) HGS.o).trans HC.o)
   obtain ⟨r,hr⟩:∃ r,isU s x=r:=⟨_,rfl⟩
   have HR:=hD hr
   have hkl:((k:Nat):Int)<(n:Int):=by omega
   clear hx hat hmem hr YR
   go_wp2_with (with_reducible refine zdV rfl (.tmp 14) rfl b (o+k*27) rfl HAT.o HM.o ?_)
   refine (zsX wr x s HM.o g HG.o).mono ?_
   rw [HR.o]
   rintro e w1 ⟨rfl,hb1⟩
   have WB1:=hD (zaa WB.o hb1 lr)
   clear hb1
   cases r
   ·have HF:Hid (l.all (isU s)=false):=hD (List.all_eq_false.2 ⟨x,List.mem_of_getElem? HX.o,by rw [HR.o];decide⟩)
    go_wp2_with fail
    go_ret
    exact ⟨_,rfl,by rw [HF.o];exact decide_eq_true (by omega),WB1.o⟩
   ·have HNX:Hid (∀ y∈l.take (k+1),isU s y=true):=hD (by
     intro y hy
     rw [List.take_add_one,HX.o] at hy
     rcases List.mem_append.1 hy with hy | hy
     ·exact HA.o y hy
     ·rw [show y=x by simpa using hy];exact HR.o)
    go_wp2_with fail
    go_roundw
    case rel=>exact ⟨k+1,by omega,by go_num,HNX.o,WB1.o⟩
    case measure=>simp [intOf];omega
  ·obtain rfl:k=n:=by omega
   have HF:Hid (l.all (isU s)=true):=hD (by
    rw [List.all_eq_true]
    intro x hx
    exact HA.o x (by rw [List.take_of_length_le (by rw [HL.o];exact lr)];exact hx))
   go_wp2
   go_ret
   exact ⟨_,rfl,by rw [HF.o];rfl,WB.o⟩
theorem zj4 (w:World) (lo hi:Nat) (A:Option Addr) (n c:Nat) (l:List Ur) (h:AtG uroL w lo hi A n l) (hw:∀ m∈l,m.W) (hh:hi≤w.heap.size) (hn:n≤3000000000000) (s:Int) (g:Nat) (c0:w.cell? ⟨g,0,none⟩=some (.int .i64 s)) :
  Calls prog 133 #[.slice A n c,.func (.func 131) #[] #[.pointer (some ⟨g,0,none⟩)]] w fun e w'=>e = .returned (.bool (!l.all (isU s)))∧Below w.heap.size w w':=by
 have HC:=hD (zoq w lo hi A n c l h hw hh hn s g c0)
 obtain ⟨q,hq⟩:∃ q,l.all (isU s)=q:=⟨_,rfl⟩
 have HQ:=hD hq
 rw [hq]
 clear h hw hq c0
 go_enter func133,ntmps133
 go_wp2_with fail
 refine HC.o.mono ?_
 rintro e w1 ⟨r,rfl,hr,hb1⟩
 rw [HQ.o] at hr
 cases q
 ·have h0:(0:Int)≤r:=of_decide_eq_true hr
  clear hr
  go_wp2
  go_ret
  exact ⟨rfl,hb1⟩
 ·have h0:¬ (0:Int)≤r:=of_decide_eq_false hr
  clear hr
  go_wp2
  go_ret
  exact ⟨by show Ending.returned (.bool (decide (0≤r)))=_;rw [decide_eq_false (by omega)];rfl,hb1⟩
theorem znS (w:World) (lo hi:Nat) (x:TbP) (h:mTb w lo hi x) (hw:wTb x) (hh:hi≤w.heap.size) (hfit:FitT x) (hN:za1 w) :
  Calls prog 100 #[.agg (tbC x)] w fun e w'=>e = .returned (.bool (zdq x.tb))∧Below w.heap.size w w':=by
 have S0:=hD (TbS.start h hw hh)
 have N0:=hD (hN.below S0.o.bl)
 have c0:=hD S0.o.c0
 have c1:=S0.o.c1
 have c19:=S0.o.c19
 have c20:=S0.o.c20
 have HFT:=hD hfit
 have HLM:=hD h.1.len
 have HLU:=hD h.2.1.len
 have HH:=hD (show hi≤(w.alloc (.cells (tbC x) 104)).heap.size from Nat.le_trans hh S0.o.bl.size)
 have h1:x.mn≤3000000000000:=by have:=hfit.m;omega
 have h2:x.un≤3000000000000:=by have:=hfit.u;omega
 clear h hw hfit hN
 by_cases hf:x.f=5
 ·have HFU:Hid (zdq x.tb=(decide (x.us.length=0)&&x.ms.all (isM x.s))):=hD (by unfold zdq;rw [if_pos (show x.tb.f=5 from hf)];rfl)
  rw [HFU.o,HLU.o]
  by_cases hu:x.un=0
  ·have hu2:((x.un:Nat):Int)=0:=by omega
   rw [decide_eq_true hu,Bool.true_and]
   obtain ⟨r,hr⟩:∃ r,x.ms.all (isM x.s)=r:=⟨_,rfl⟩
   have HR:=hD hr
   rw [hr]
   clear hr hu
   go_enter func100,ntmps100
   go_wp2_with fail
   refine (zj6 _ lo hi x.mA x.mn x.mc x.ms S0.o.m.1 S0.o.sz.ms HH.o h1 HFT.o.k N0.o x.s w.heap.size c0.o).mono ?_
   rw [HR.o]
   rintro e w1 ⟨rfl,hb1⟩
   have S1:=hD (S0.o.on hb1)
   clear hb1
   go_wp2
   go_ret
   exact ⟨by cases r <;> rfl,S1.o.bl⟩
  ·have hu2:¬ ((x.un:Nat):Int)=0:=by omega
   rw [decide_eq_false hu,Bool.false_and]
   clear hu
   go_enter func100,ntmps100
   go_wp2
   go_ret
   exact ⟨rfl,S0.o.bl⟩
 ·have HFU:Hid (zdq x.tb=(decide (x.ms.length=0)&&x.us.all (isU x.s))):=hD (by unfold zdq;rw [if_neg (show ¬ x.tb.f=5 from hf)];rfl)
  rw [HFU.o,HLM.o]
  by_cases hu:x.mn=0
  ·have hu2:((x.mn:Nat):Int)=0:=by omega
   rw [decide_eq_true hu,Bool.true_and]
   obtain ⟨r,hr⟩:∃ r,x.us.all (isU x.s)=r:=⟨_,rfl⟩
   have HR:=hD hr
   rw [hr]
   clear hr hu
   go_enter func100,ntmps100
   go_wp2_with fail
   refine (zj4 _ lo hi x.uA x.un x.uc x.us S0.o.m.2.1 S0.o.sz.us HH.o h2 x.s w.heap.size c0.o).mono ?_
   rw [HR.o]
   rintro e w1 ⟨rfl,hb1⟩
   have S1:=hD (S0.o.on hb1)
   clear hb1
   go_wp2
   go_ret
   exact ⟨by cases r <;> rfl,S1.o.bl⟩
  ·have hu2:¬ ((x.mn:Nat):Int)=0:=by omega
   rw [decide_eq_false hu,Bool.false_and]
   clear hu
   go_enter func100,ntmps100
   go_wp2
   go_ret
   exact ⟨rfl,S0.o.bl⟩
theorem zkh (w:World) (x:TbP) (hw:wTb x) :
  Calls prog 99 #[.agg (tbC x)] w fun e w'=>e = .returned (.bool (zdt x.s x.f))∧Below w.heap.size w w':=by
 have HB:=hD (Blk.new w 104 (tbC x))
 have c0:(w.alloc (.cells (tbC x) 104)).cell? ⟨w.heap.size,0,none⟩=some (.int .i64 x.s):=(HB.o.cell 0).trans (by unfold tbC;simpa using zrS x)
 have c1:(w.alloc (.cells (tbC x) 104)).cell? ⟨w.heap.size,1,none⟩=some (.int .i64 x.f):=(HB.o.cell 1).trans (by unfold tbC;simpa using zrR x)
 have W0:=hD ((Below.refl w.heap.size w).alloc lr (.cells (tbC x) 104))
 clear hw HB
 go_enter func99,ntmps99
 go_wp2_with fail
 refine (zfJ _ (x.s,x.f)).mono ?_
 rintro e w1 ⟨rfl,hb1⟩
 have W1:=hD (zaa W0.o hb1 lr)
 clear hb1
 go_wp2
 go_ret
 exact ⟨rfl,W1.o⟩
theorem zuH (w:World) (lo hi:Nat) (x:TbP) (h:mTb w lo hi x) (hw:wTb x) (hh:hi≤w.heap.size) (hfit:FitT x) :
  Calls prog 52 #[.agg (tbC x)] w fun e w'=>e = .returned (.bool (hasT x.tb))∧Below w.heap.size w w':=by
 have S0:=hD (TbS.start h hw hh)
 have c19:=S0.o.c19
 have c20:=S0.o.c20
 have h1:=hfit.m
 have h2:=hfit.u
 have HE:Hid (hasT x.tb=decide ((0:Int)<(x.mn:Int)+(x.un:Int))):=hD (by
  have e1:=h.1.len
  have e2:=h.2.1.len
  unfold hasT
  show decide (0<x.ms.length+x.us.length)=_
  rw [e1,e2]
  exact decide_eq_decide.2 (by omega))
 rw [HE.o]
 clear h hw hfit
 go_enter func52,ntmps52
 go_wp2
 go_ret
 exact ⟨rfl,S0.o.bl⟩
theorem zkr (w:World) (lo hi:Nat) (x:TbP) (b:Bool) (h:mTb w lo hi x) (hw:wTb x) (hh:hi≤w.heap.size) (hfit:FitT x) (hN:za1 w) :
  Calls prog 51 #[.agg (tbC x),.bool b] w fun e w'=>e = .returned (.bool (zbL b x.tb))∧Below w.heap.size w w':=by
 have S0:=hD (TbS.start h hw hh)
 have N0:=hD (hN.below S0.o.bl)
 have HFT:=hD hfit
 have HOB:=hD (zgq hw)
 have HH:=hD (show hi≤(w.alloc (.cells (tbC x) 104)).heap.size from Nat.le_trans hh S0.o.bl.size)
 have RG:=hD S0.o.rng
 have RX:Hid (zbL b x.tb=(zdt x.s x.f&&(zdq x.tb&&(zay x.ns x.nb&&(b==decide (0<x.ns)))))):=hD rfl
 rw [RX.o]
 obtain ⟨q1,h1⟩:∃ r,zdt x.s x.f=r:=⟨_,rfl⟩
 obtain ⟨q2,h2⟩:∃ r,zdq x.tb=r:=⟨_,rfl⟩
 obtain ⟨q3,h3⟩:∃ r,zay x.ns x.nb=r:=⟨_,rfl⟩
 have H1:=hD h1
 have H2:=hD h2
 have H3:=hD h3
 rw [h1,h2,h3]
 clear h hw hfit hN h1 h2 h3 RX
 go_enter func51,ntmps51
 go_wp2_with ((with_reducible refine zaH ?_ (.tmp 2) rfl w.heap.size 0 rfl x RG.o HOB.o ?_);· rfl)
 refine (zkh _ x S0.o.sz).mono ?_
 rw [H1.o]
 rintro e w1 ⟨rfl,hb1⟩
 have S1:=hD (S0.o.on hb1)
 have N1:=hD (N0.o.below hb1)
 have RG1:=hD S1.o.rng
 have HH1:=hD (Nat.le_trans HH.o hb1.size)
 clear hb1 S0 N0 RG HH
 cases q1
 ·go_wp2
  go_ret
  exact ⟨rfl,S1.o.bl⟩
 ·go_wp2_with ((with_reducible refine zaH ?_ (.tmp 2) rfl w.heap.size 0 rfl x RG1.o HOB.o ?_);· rfl)
  refine (znS w1 lo hi x S1.o.m S1.o.sz HH1.o HFT.o N1.o).mono ?_
  rw [H2.o]
  rintro e w2 ⟨rfl,hb2⟩
  have S2:=hD (S1.o.on hb2)
  have RG2:=hD S2.o.rng
  clear hb2 S1 N1 RG1 HH1
  cases q2
  ·go_wp2
   go_ret
   exact ⟨rfl,S2.o.bl⟩
  ·go_wp2_with (refine zac ?_ (zcN (.tmp 12) rfl w.heap.size 0 rfl RG2.o HOB.o) ?_;· rfl)
   refine (zcx w2 x.ns x.nb HOB.o).mono ?_
   rw [H3.o]
   rintro e w3 ⟨rfl,hb3⟩
   have S3:=hD (S2.o.on hb3)
   have c2:=S3.o.c2
   clear hb3 S2 RG2
   cases q3
   ·go_wp2
    go_ret
    exact ⟨rfl,S3.o.bl⟩
   ·cases b
    ·go_wp2
     go_ret
     exact ⟨by first | rfl | (cases decide (0<x.ns) <;> rfl),S3.o.bl⟩
    ·go_wp2
     go_ret
     exact ⟨by first | rfl | (cases decide (0<x.ns) <;> rfl),S3.o.bl⟩
end
section
set_option maxRecDepth 20000
open Go.RowKit
theorem zyI (w:World) (a:Nat) (t:TypeId):At (w.alloc (.cells (madeCells #[.int .u8 0] a) t)) w.heap.size (w.heap.size+1) (some ⟨w.heap.size,0,none⟩) a (List.replicate a 0) :=
 ⟨by simp,fun _=>⟨_,0,rfl,lr,by omega,fun j u hu=>by
  have hb:=(Blk.new w t (madeCells #[.int .u8 0] a)).cell j
  rw [Nat.zero_add,hb,← Array.getElem?_toList,toList_madeCells_one]
  obtain ⟨hj,rfl⟩:=List.getElem?_eq_some_iff.1 hu
  rw [List.length_replicate] at hj
  rw [List.getElem?_replicate,if_pos hj]
  simp [bv]⟩⟩
theorem zwg (w:World) (V1 V2 V3:Int) (t:TypeId) (a b c:UInt8) (h1:V1=(a.toNat:Int)) (h2:V2=(b.toNat:Int)) (h3:V3=(c.toNat:Int)) :
  At (w.alloc (.cells #[.int .u8 V1,.int .u8 V2,.int .u8 V3] t)) w.heap.size (w.heap.size+1) (some ⟨w.heap.size,0,none⟩) 3 [a,b,c]:=by
 subst h1 h2 h3
 refine ⟨rfl,fun _=>⟨_,0,rfl,lr,by omega,fun j u hu=>?_⟩⟩
 have hb:=(Blk.new w t #[.int .u8 (a.toNat:Int),.int .u8 (b.toNat:Int),.int .u8 (c.toNat:Int)]).cell j
 rw [Nat.zero_add,hb]
 match j,hu with
 | 0,hu=>simp at hu;subst hu;rfl
 | 1,hu=>simp at hu;subst hu;rfl
 | 2,hu=>simp at hu;subst hu;rfl
theorem zkj (w:World) (f:Int):Calls prog 166 #[.int .i64 f] w fun e w'=>e = .returned (.int .i64 ((ahT f).length:Nat))∧w=w':=by
 unfold ahT
 by_cases hf:f=128
 ·rw [if_pos hf]
  go_enter func166,ntmps166
  go_wp2
  go_ret
  exact ⟨rfl,rfl⟩
 ·rw [if_neg hf]
  go_enter func166,ntmps166
  go_wp2
  go_ret
  exact ⟨rfl,rfl⟩
theorem znE (w:World) (s:Int) (h:s=4∨s=16):Calls prog 63 #[.int .i64 s] w fun e w'=>e = .returned (.int .u8 ((numT s).toNat:Nat))∧w=w':=by
 have:=zgk w s
 rcases h with rfl | rfl <;> exact this
set_option maxHeartbeats 1000000 in
theorem zs4 (w:World) (lo hi:Nat) (x:TbP) (h:mTb w lo hi x) (hw:wTb x) (hh:hi≤w.heap.size) (a s:Nat) (ha:(ahT x.f).length=a) (ha8:a≤8) (hs:x.ns=(s:Int)) (hs16:s≤16) (hr:zay x.ns x.nb=true) :
  Calls prog 160 #[.agg (tbC x)] w fun e w'=>∃ v,e = .returned v∧w'.ownsRow w.heap.size 5 1 v (zjO x.tb).length (bvs (zjO x.tb))∧Below w.heap.size w w':=by
 obtain ⟨i0,hi0,hz0,hz1,hz2⟩:=info_parts zbK
 have S0:=hD (TbS.start h hw hh)
 have c1:=S0.o.c1
 have HA:=hD ha
 have HS:=hD hs
 have HRA:=hD hr
 have HOB:=hD (zgq hw)
 have HL:=hD (zcK hw.nb hr)
 have HAT:Hid (ahT x.f=List.replicate a 0):=hD (by
  rw [← ha];unfold ahT;split <;> rfl)
 clear h hw ha hs hr
 go_enter func160,ntmps160
 go_wp2_with fail
 refine (zkj _ x.f).mono ?_
 rw [HA.o]
 rintro e w1 ⟨rfl,rfl⟩
 go_wp2_with (refine zcr rfl (.tmp 7) (.tmp 7) 22 rfl 5 i0 underlying22 hi0 hz0 hz1 hz2 a a _ rfl rfl rfl lr (by omega) ?_;refine Hid.o ?_)
 refine hD ?_
 have S2:=hD (S0.o.new (.cells (madeCells #[.int .u8 0] a) 5))
 have M2:=hD (zyI (w.alloc (.cells (tbC x) 104)) a 5)
 have k2:=S2.o.c2
 rw [HS.o] at k2
 have e1:(w.alloc (.cells (tbC x) 104)).heap.size=w.heap.size+1:=by simp
 rw [e1] at M2
 generalize (w.alloc (.cells (tbC x) 104)).alloc (.cells (madeCells #[.int .u8 0] a) 5)=w2 at *
 have M2z:Hid (w.heap.size+1<w2.heap.size∨a=0):=hD (by
  rcases Nat.eq_zero_or_pos a with h0 | h0
  ·exact .inr h0
  ·obtain ⟨b,o,e,_,_,hc⟩:=M2.o.2 h0
   injection e with e;injection e with e _
   have h1:=World.block_lt_of_cell? _ _ (hc 0 _ (by rw [List.getElem?_replicate,if_pos h0]))
   exact .inl (by rw [e];exact h1))
 have S3:=hD (S2.o.new (.cells #[.int .u8 ((a:Int)+(s:Int))] 5))
 have M3:=hD ((M2.o.lt.alloc lr (.cells #[.int .u8 ((a:Int)+(s:Int))] 5)))
 have O3:=hD (zhP w2 ((a:Int)+(s:Int)) 5 (UInt8.ofNat (a+s)) (by simp;omega))
 have hz3:(w2.alloc (.cells #[.int .u8 ((a:Int)+(s:Int))] 5)).heap.size=w2.heap.size+1:=by simp
 have RG3:=hD S3.o.rng
 clear S0 c1 e1 S2
 go_wp2_with ((with_reducible refine zac ?_ (zcN (.tmp 19) rfl w.heap.size 0 rfl RG3.o HOB.o) ?_);· rfl)
 refine (zc0 _ x.ns x.nb HOB.o).mono ?_
 rintro e w4 ⟨v4,rfl,ho4,hb4⟩
 obtain ⟨A4,c4,rfl,_,_⟩:=zag ho4
 have S4:=hD (S3.o.on hb4)
 have P1:=hD ((O3.o.below (hb4.mono (by omega))).more (lo':=0) (hi':=w4.heap.size) (Nat.zero_le _) (by have:=hb4.size;omega))
 have P2:=hD ((M3.o.below (hb4.mono (by omega))).more (lo':=0) (hi':=w4.heap.size) (Nat.zero_le _) (by have:=hb4.size;omega))
 have P3:=hD ((At.own ho4).more (lo':=0) (hi':=w4.heap.size) (Nat.zero_le _) lr)
 have Z4:=hD (zhP w4 0 5 0 rfl)
 have B5:Hid (Below w4.heap.size w4 (w4.alloc (.cells #[.int .u8 0] 5))):=hD ((Below.refl _ _).alloc lr _)
 have hz5:(w4.alloc (.cells #[.int .u8 0] 5)).heap.size=w4.heap.size+1:=by simp
 have R5:=hD (zqg (c1:=1) (c2:=a) (c3:=c4) (c4:=1) ((P1.o.below B5.o).more (hi':=w4.heap.size+1) lr (by omega)) ((P2.o.below B5.o).more (hi':=w4.heap.size+1) lr (by omega)) ((P3.o.below B5.o).more (hi':=w4.heap.size+1) lr (by omega)) (Z4.o.more (lo':=0) (hi':=w4.heap.size+1) (Nat.zero_le _) lr))
 clear S3 M2 M3 O3 RG3 hz3 ho4 hb4 P1 P2 P3 Z4
 have NB:=Blk.new (w4.alloc (.cells #[.int .u8 0] 5)) 22 #[.slice (some ⟨w2.heap.size,0,none⟩) 1 1,.slice (some ⟨w.heap.size+1,0,none⟩) a a,.slice A4 (zav x.ns x.nb).length c4,.slice (some ⟨w4.heap.size,0,none⟩) 1 1]
 rw [hz5] at NB
 have HNB:=hD NB
 have HFL:Hid (([[UInt8.ofNat (a+s)],List.replicate a 0,zav x.ns x.nb,[0]]:List (List UInt8)).flatten=zjO x.tb):=hD (by
  have e2:x.tb.ns.toNat=s:=by show x.ns.toNat=s;rw [HS.o];rfl
  unfold zjO
  show _=UInt8.ofNat ((ahT x.f).length+x.tb.ns.toNat)::(ahT x.f++(zav x.ns x.nb++[0]))
  rw [HA.o,e2,HAT.o]
  simp)
 have HSUM:Hid (([[UInt8.ofNat (a+s)],List.replicate a 0,zav x.ns x.nb,[0]]:List (List UInt8)).flatten.length≤140737488351000):=hD (by
  have h1:=HL.o
  rw [HS.o] at h1
  have h2:(zav x.ns x.nb).length=s:=by rw [HS.o];exact h1
  simp [h2]
  omega)
 have B6:=hD (((S4.o.bl.alloc S4.o.bl.size (.cells #[.int .u8 0] 5)).alloc (by rw [hz5];have:=S4.o.bl.size;omega) (.cells #[.slice (some ⟨w2.heap.size,0,none⟩) 1 1,.slice (some ⟨w.heap.size+1,0,none⟩) a a,.slice A4 (zav x.ns x.nb).length c4,.slice (some ⟨w4.heap.size,0,none⟩) 1 1] 22)))
 clear NB S4
 go_wp2_with fail
 refine (zco _ (w4.heap.size+1) 22 _ [[UInt8.ofNat (a+s)],List.replicate a 0,zav x.ns x.nb,[0]] 4 rfl (by decide) HNB.o (R5.o.below ((Below.refl _ _).alloc (by rw [hz5];exact lr) _) |>.wide (by simp)) HSUM.o).mono ?_
 rw [HFL.o]
 rintro e w7 ⟨v7,rfl,ho7,hb7⟩
 go_wp2
 go_ret
 exact ⟨v7,rfl,zaC ho7 B6.o.size,zaa B6.o hb7 lr⟩
structure TgS (w z:World) (lo hi:Nat) (x:TbP):Prop where
 s:TbS w z lo hi x
 n:za1 z
section
variable {w y z:World} {lo hi:Nat} {x:TbP}
theorem TgS.on (h:TgS w y lo hi x) (hb:Below y.heap.size y z):TgS w z lo hi x:=⟨h.s.on hb,h.n.below hb⟩
theorem TgS.drew (h:TgS w y lo hi x):TgS w y.drew lo hi x:=h.on (zaj (Below.refl _ _))
theorem TgS.new (h:TgS w y lo hi x) (ob:Obj):TgS w (y.alloc ob) lo hi x:=h.on ((Below.refl _ _).alloc lr ob)
theorem TgS.here (h:TgS w y lo hi x):hi≤y.heap.size:=Nat.le_trans h.s.hh h.s.bl.size
end
theorem zqh {l:List Mr} {n:Nat} (hw:∀ m∈l,m.W) (hn:n≤1260000000000) (hl:l.length=n):(rowO l).length≤138600000000000:=by
 cases h:zjM l
 ·unfold rowO;rw [h];simp
 ·rw [(zk9 h).1]
  have h1:=zhc hw (fun m hm=>by unfold zjM at h;rw [List.all_eq_true] at h;exact h m hm)
  omega
theorem znR {l:List Ur} {n:Nat} (hw:∀ m∈l,m.W) (hn:n≤3000000000000) (hl:l.length=n):(zej l).length≤84000000000000:=by
 cases h:ze5 l
 ·unfold zej;rw [h];simp
 ·rw [(zmw h).1]
  have h1:=zhb hw (fun m hm=>by unfold ze5 at h;rw [List.all_eq_true] at h;exact h m hm)
  omega
theorem zmy {t:Tb} (h:zdq t=true):t.us=[]∨t.ms=[]:=by
 unfold zdq at h
 split at h
 ·simp only [Bool.and_eq_true,decide_eq_true_eq] at h
  exact .inl (List.eq_nil_of_length_eq_zero h.1)
 ·simp only [Bool.and_eq_true,decide_eq_true_eq] at h
  exact .inr (List.eq_nil_of_length_eq_zero h.1)
theorem zqo {x:TbP} {r:Bool} (h:zbL r x.tb=true):∃ s a:Nat,x.ns=(s:Int)∧s≤16∧(ahT x.f).length=a∧a≤8∧zay x.ns x.nb=true:=by
 obtain ⟨_,_,_,h4,_⟩:=zgc h
 have hs:x.ns=0∨x.ns=4∨x.ns=16:=zbV h4
 exact ⟨x.ns.toNat,(ahT x.f).length,by omega,by omega,rfl,by unfold ahT;split <;> simp,h4⟩
theorem zoh {x:TbP} {a s:Nat} (hl:x.nb.length=16) (hr:zay x.ns x.nb=true) (ha8:a≤8) (ha:(ahT x.f).length=a) (hs:x.ns=(s:Int)) (hs16:s≤16):(zjO x.tb).length≤30:=by
 have h1:=zc1 x.ns hl
 unfold zjO
 show (UInt8.ofNat _::(ahT x.f++(zav x.ns x.nb++[0]))).length≤30
 simp only [List.length_cons,List.length_append,List.length_nil]
 omega
set_option maxHeartbeats 2000000 in
theorem ziu (w:World) (lo hi:Nat) (x:TbP) (b:Bool) (h:mTb w lo hi x) (hw:wTb x) (hh:hi≤w.heap.size) (hfit:FitT x) (hN:za1 w) (hr:zbL b x.tb=true) :
  Calls prog 139 #[.agg (tbC x),.bool b] w fun e w'=>∃ v,e = .returned v∧w'.ownsRow w.heap.size 5 1 v (valT b x.tb).length (bvs (valT b x.tb))∧Below w.heap.size w w':=by
 obtain ⟨r1,r2,_,r4,r5⟩:=zgc hr
 obtain ⟨F,hF⟩:∃ F:Nat,x.f=(F:Int):=⟨x.f.toNat,by have:x.f=5∨x.f=128:=r2;omega⟩
 have hF2:F=5∨F=128:=by have:x.f=5∨x.f=128:=r2;omega
 have Q0:Hid (TgS w (w.alloc (.cells (tbC x) 104)) lo hi x):=hD ⟨TbS.start h hw hh,hN.below ((Below.refl _ _).alloc lr _)⟩
 have HF:=hD hF
 have HFT:=hD hfit
 have HOB:=hD (zgq hw)
 have HR:=hD hr
 have HS1:Hid (x.s=4∨x.s=16):=hD r1
 have hFI:(F:Int)<256:=by omega
 clear h hw hfit hN hr r1 r2 r4 r5 hF
 go_enter func139,ntmps139
 go_wp2_with fail
 refine wp_region_held_drew (S:=fun z=>TgS w z lo hi x) (by kernel_rfl) Q0.o.drew (fun hHeld=>?_)
 refine rgT 0 ?_
 refine rgK 1 (fun w' hSw=>hSw.s.c0) ?_
 refine rgT 3 ?_
 refine rgK 4 (fun w' hSw=>(hSw.s.c1.trans (by rw [HF.o]):w'.cell? ⟨w.heap.size,1,none⟩=some (.int .i64 (F:Int)))) ?_
 refine rgV 5 (.int .u8 (F:Int)) ?_ ?_
 ·(intro w' hSw;rcases hF2 with rfl | rfl <;> (go_simp <;> rfl))
 refine zal (i:=2) rfl (by kernel_rfl) (by rfl) (znE _ x.s HS1.o) (fun w=>by kernel_rfl) ?_
 rintro e w1 ⟨rfl,rfl⟩
 refine ⟨_,rfl,hHeld,fun hHeld=>?_⟩
 refine rgN ?_
 refine zaG (i:=6) (v:=.slice (some ⟨(w.alloc (.cells (tbC x) 104)).drew.heap.size,0,none⟩) 3 3) (w':=(w.alloc (.cells (tbC x) 104)).drew.alloc (.cells #[.int .u8 0,.int .u8 ((numT x.s).toNat:Int),.int .u8 (F:Int)] 5)) rfl (by kernel_rfl) (by rfl) ?_ (hHeld.new _) (fun hHeld=>?_)
 ·(go_simp <;> with_reducible rfl)
 refine rgN ?_
 refine rgT 7 ?_
 refine wpAnyH_done (by kernel_rfl) ?_ _
 have TH:=hD (zwg (w.alloc (.cells (tbC x) 104)).drew 0 ((numT x.s).toNat:Int) (F:Int) 5 0 (numT x.s) (UInt8.ofNat F) rfl rfl (by rcases hF2 with rfl | rfl <;> rfl))
 have S2:=hD hHeld
 have e1:(w.alloc (.cells (tbC x) 104)).drew.heap.size=w.heap.size+1:=by simp
 rw [e1] at TH
 have TH2:=hD (TH.o.lt.more (lo':=0) (Nat.zero_le _) lr)
 clear hHeld TH e1 Q0
 generalize ((w.alloc (.cells (tbC x) 104)).drew.alloc (.cells #[.int .u8 0,.int .u8 ((numT x.s).toNat:Int),.int .u8 (F:Int)] 5))=w2 at *
 have NX2:=hD (At.nil w2 0 w2.heap.size none)
 have HLM:Hid ((rowO x.ms).length≤138600000000000):=hD (zqh S2.o.s.sz.ms HFT.o.m S2.o.s.m.1.len)
 have HLU:Hid ((zej x.us).length≤84000000000000):=hD (znR S2.o.s.sz.us HFT.o.u S2.o.s.m.2.1.len)
 have HEM:Hid ((rowO x.ms).length+(zej x.us).length≤138600000000000):=hD (by
  have h1:=HLM.o
  have h2:=HLU.o
  rcases zmy (zgc HR.o).2.2.1 with h0 | h0
  ·have h3:zej x.us=[]:=by rw [show x.us=[] from h0];rfl
   rw [h3];simpa using h1
  ·have h3:rowO x.ms=[]:=by rw [show x.ms=[] from h0];rfl
   rw [h3];simp;omega)
 cases b
 ·have HFL:Hid (([[0,numT x.s,UInt8.ofNat F],[],rowO x.ms,zej x.us]:List (List UInt8)).flatten=valT false x.tb):=hD (by
   have e2:x.tb.f.toNat=F:=by show x.f.toNat=F;rw [HF.o];rfl
   unfold valT ziR
   rw [e2]
   simp
   exact ⟨rfl,rfl⟩)
  have HSUM:Hid (([[0,numT x.s,UInt8.ofNat F],[],rowO x.ms,zej x.us]:List (List UInt8)).flatten.length≤140737488351000):=hD (by
   have h1:=HLM.o
   have h2:=HLU.o
   have h4:=HEM.o
   simp
   omega)
  have k19:=S2.o.s.c19
  go_wp2_with fail
  refine (zpy _ lo hi x.mA x.mn x.mc x.ms S2.o.s.m.1 S2.o.here S2.o.s.sz.ms HFT.o.k HFT.o.m S2.o.n).mono ?_
  rintro e w4 ⟨v4,rfl,ho4,hb4⟩
  obtain ⟨A4,c4,rfl,_,_⟩:=zag ho4
  have S4:=hD (S2.o.on hb4)
  have M4:=hD ((At.own ho4).more (lo':=0) (hi':=w4.heap.size) (Nat.zero_le _) lr)
  have T4:=hD ((TH2.o.below hb4).more (lo':=0) (hi':=w4.heap.size) lr hb4.size)
  have N4:=hD ((NX2.o.below hb4).more (lo':=0) (hi':=w4.heap.size) lr hb4.size)
  have k20:=S4.o.s.c20
  clear ho4 hb4 S2 TH2 NX2 k19
  go_wp2_with fail
  refine (zoQ _ lo hi x.uA x.un x.uc x.us S4.o.s.m.2.1 S4.o.here S4.o.s.sz.us HFT.o.u).mono ?_
  rintro e w5 ⟨v5,rfl,ho5,hb5⟩
  obtain ⟨A5,c5,rfl,_,_⟩:=zag ho5
  have S5:=hD (S4.o.on hb5)
  have U5:=hD ((At.own ho5).more (lo':=0) (hi':=w5.heap.size) (Nat.zero_le _) lr)
  have R5:=hD (zqg (c1:=3) (c2:=0) (c3:=c4) (c4:=c5) ((T4.o.below hb5).more (lo':=0) (hi':=w5.heap.size) lr hb5.size) ((N4.o.below hb5).more (lo':=0) (hi':=w5.heap.size) lr hb5.size) ((M4.o.below hb5).more (lo':=0) (hi':=w5.heap.size) lr hb5.size) U5.o)
  clear ho5 hb5 S4 T4 N4 M4 U5 k20
  go_wp2_with fail
  refine (zco _ w5.heap.size 22 _ [[0,numT x.s,UInt8.ofNat F],[],rowO x.ms,zej x.us] 4 rfl (by decide) (Blk.new w5 _ _) (R5.o.below ((Below.refl w5.heap.size w5).alloc lr _) |>.wide (by simp)) HSUM.o).mono ?_
  rw [HFL.o]
  rintro e w6 ⟨v6,rfl,ho6,hb6⟩
  go_wp2
  go_ret
  exact ⟨v6,rfl,zaC ho6 (Nat.le_trans S5.o.s.bl.size (by simp)),zaa (S5.o.s.bl.alloc S5.o.s.bl.size _) hb6 lr⟩
 ·obtain ⟨s,a,hs,hs16,ha,ha8,hra⟩:=zqo HR.o
  have HL:=hD (zoh S2.o.s.sz.nb hra ha8 ha hs hs16)
  have HFL:Hid (([[0,numT x.s,UInt8.ofNat F],zjO x.tb,rowO x.ms,zej x.us]:List (List UInt8)).flatten=valT true x.tb):=hD (by
   have e2:x.tb.f.toNat=F:=by show x.f.toNat=F;rw [HF.o];rfl
   unfold valT ziR
   rw [e2]
   simp
   exact ⟨rfl,rfl⟩)
  have HSUM:Hid (([[0,numT x.s,UInt8.ofNat F],zjO x.tb,rowO x.ms,zej x.us]:List (List UInt8)).flatten.length≤140737488351000):=hD (by
   have h1:=HLM.o
   have h2:=HLU.o
   have h4:=HEM.o
   have h3:=HL.o
   simp
   omega)
  have RG2:=hD S2.o.s.rng
  have HA:=hD ha
  have HS:=hD hs
  have HRA:=hD hra
  clear ha hs hra NX2
  go_wp2_with ((with_reducible refine zaH ?_ (.tmp 2) rfl w.heap.size 0 rfl x RG2.o HOB.o ?_);· rfl)
  refine (zs4 _ lo hi x S2.o.s.m S2.o.s.sz S2.o.here a s HA.o ha8 HS.o hs16 HRA.o).mono ?_
  rintro e w3 ⟨v3,rfl,ho3,hb3⟩
  obtain ⟨A3,c3,rfl,_,_⟩:=zag ho3
  have S3:=hD (S2.o.on hb3)
  have NX3:=hD ((At.own ho3).more (lo':=0) (hi':=w3.heap.size) (Nat.zero_le _) lr)
  have TH3:=hD ((TH2.o.below hb3).more (lo':=0) (hi':=w3.heap.size) lr hb3.size)
  clear ho3 hb3 S2 TH2 RG2
  have k19b:=S3.o.s.c19
  go_wp2_with fail
  refine (zpy _ lo hi x.mA x.mn x.mc x.ms S3.o.s.m.1 S3.o.here S3.o.s.sz.ms HFT.o.k HFT.o.m S3.o.n).mono ?_
  rintro e w4 ⟨v4,rfl,ho4,hb4⟩
  obtain ⟨A4,c4,rfl,_,_⟩:=zag ho4
  have S4:=hD (S3.o.on hb4)
  have M4:=hD ((At.own ho4).more (lo':=0) (hi':=w4.heap.size) (Nat.zero_le _) lr)
  have T4:=hD ((TH3.o.below hb4).more (lo':=0) (hi':=w4.heap.size) lr hb4.size)
  have N4:=hD ((NX3.o.below hb4).more (lo':=0) (hi':=w4.heap.size) lr hb4.size)
  have k20:=S4.o.s.c20
  clear ho4 hb4 S3 TH3 NX3 k19b
  go_wp2_with fail
  refine (zoQ _ lo hi x.uA x.un x.uc x.us S4.o.s.m.2.1 S4.o.here S4.o.s.sz.us HFT.o.u).mono ?_
  rintro e w5 ⟨v5,rfl,ho5,hb5⟩
  obtain ⟨A5,c5,rfl,_,_⟩:=zag ho5
  have S5:=hD (S4.o.on hb5)
  have U5:=hD ((At.own ho5).more (lo':=0) (hi':=w5.heap.size) (Nat.zero_le _) lr)
  have R5:=hD (zqg (c1:=3) (c2:=c3) (c3:=c4) (c4:=c5) ((T4.o.below hb5).more (lo':=0) (hi':=w5.heap.size) lr hb5.size) ((N4.o.below hb5).more (lo':=0) (hi':=w5.heap.size) lr hb5.size) ((M4.o.below hb5).more (lo':=0) (hi':=w5.heap.size) lr hb5.size) U5.o)
  clear ho5 hb5 S4 T4 N4 M4 U5 k20
  go_wp2_with fail
  refine (zco _ w5.heap.size 22 _ [[0,numT x.s,UInt8.ofNat F],zjO x.tb,rowO x.ms,zej x.us] 4 rfl (by decide) (Blk.new w5 _ _) (R5.o.below ((Below.refl w5.heap.size w5).alloc lr _) |>.wide (by simp)) HSUM.o).mono ?_
  rw [HFL.o]
  rintro e w6 ⟨v6,rfl,ho6,hb6⟩
  go_wp2
  go_ret
  exact ⟨v6,rfl,zaC ho6 (Nat.le_trans S5.o.s.bl.size (by simp)),zaa (S5.o.s.bl.alloc S5.o.s.bl.size _) hb6 lr⟩
end
end Go.Proofs.YtplpglfjcieloaaGreatDoor
