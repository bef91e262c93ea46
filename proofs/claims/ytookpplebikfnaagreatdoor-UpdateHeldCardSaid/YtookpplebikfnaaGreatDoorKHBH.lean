/-
  How an update that comes in is opened. No condition.
  Which updates are right: few, Right of package update, in whatever memory. The one condition beyond sizes that fit memory: the program's tables hold what its text lays.
  What a value says where it says an address or communities, in whatever memory. No condition.
  What a value says where it says a row of addresses, in whatever memory. No condition.
-/
import Derived.Test.YtookpplebikfnaaGreatDoorKHBG
set_option linter.unusedVariables false
set_option linter.unusedSimpArgs false
namespace Go.Proofs.YtookpplebikfnaaGreatDoor
section
set_option maxRecDepth 100000
open Go.RowKit Go.ChangeShapes Go.WideShapes Go.ChangeAt
theorem zpj {H:Type} {enc:TypeId × Value→H} {w:World} {fuel:Nat} {l:List Value} {x:DataW H × List MemPlace} (h:DataW.trod enc Tryz.prog w 0 (fun _=>true) true fuel 128 l=some x) :
  ∃ s bs k,l=zg5 s bs k∧bs.length=16∧(Lit.int .i64 s).wf=true∧(Lit.int .i64 k).wf=true:=by
 obtain ⟨y0,y1,n,_,hl,h0,h1⟩:=trod_struct2 Tryz.underlying128 h
 have e0:∀ l:List Value,(l.drop 0).take (Tryz.prog.cellsOf 25)=l.take 17:=fun l=>by rw [show Tryz.prog.cellsOf 25=17 by kernel_rfl];rfl
 have e1:∀ l:List Value,(l.drop 17).take (Tryz.prog.cellsOf 3)=(l.drop 17).take 1:=fun l=>by rw [show Tryz.prog.cellsOf 3=1 by kernel_rfl]
 have h0':=(congrArg (DataW.trod enc Tryz.prog w 0 (fun _=>true) true n 25) (e0 l)).symm.trans h0
 have h1':=(congrArg (DataW.trod enc Tryz.prog w 0 (fun _=>true) true n 3) (e1 l)).symm.trans h1
 obtain ⟨s,bs,hs,hbl,hw⟩:=zcU h0'
 obtain ⟨k,hk,_,wk⟩:=DataW.trod_int Tryz.underlying3 h1'
 have hll:l.length=18:=hl.trans (by kernel_rfl)
 refine ⟨s,bs,k,?_,hbl,hw,wk⟩
 have hd:(l.drop 17).take 1=l.drop 17:=List.take_of_length_le (by rw [List.length_drop,hll];decide)
 rw [hd] at hk
 rw [← List.take_append_drop 17 l,hs,hk]
 rfl
theorem zqs {H:Type} {enc:TypeId × Value→H} {w:World} {fuel:Nat} {l:List Value} {x:DataW H × List MemPlace} (h:DataW.trod enc Tryz.prog w 0 (fun _=>true) true fuel 130 l=some x) :
  ∃ u:Ur,l=uroL u∧u.W:=by
 obtain ⟨xs,n,_,hx,hl,hlen,hfs⟩:=DataW.trod_struct Tryz.underlying130 h
 match xs,hlen with
 | [y0,y1,y2],_ =>
  have g0:=hfs 0 _ rfl
  have g1:=hfs 1 _ rfl
  have g2:=hfs 2 _ rfl
  have ci:Tryz.prog.cellsOf 3=1:=by kernel_rfl
  have cr:Tryz.prog.cellsOf 84=8:=by kernel_rfl
  have cp:Tryz.prog.cellsOf 128=18:=by kernel_rfl
  have e0:DataW.trod enc Tryz.prog w 0 (fun _=>true) true n 84 ((l.drop 0).take 8)=some y0:=by rw [← cr];exact g0
  have e1:DataW.trod enc Tryz.prog w 0 (fun _=>true) true n 128 ((l.drop 8).take 18)=some y1:=by rw [← cp];exact g1
  have e2:DataW.trod enc Tryz.prog w 0 (fun _=>true) true n 3 ((l.drop 26).take 1)=some y2:=by rw [← ci];exact g2
  have hll:l.length=27:=hl.trans (by kernel_rfl)
  obtain ⟨rd,hrd,hrl⟩:=zfp Tryz.underlying84 Tryz.underlying5 (by kernel_rfl) (by kernel_rfl) e0
  obtain ⟨s,bs,k,hp,hbl,ws,wk⟩:=zpj e1
  obtain ⟨lab,hlb,_,wl⟩:=DataW.trod_int Tryz.underlying3 e2
  refine ⟨⟨rd,s,bs,k,lab⟩,?_,⟨hrl,hbl,ziV ws,ziV wk,ziV wl⟩⟩
  have d26:(l.drop 26).take 1=l.drop 26:=List.take_of_length_le (by rw [List.length_drop,hll];decide)
  have a1:l.drop 8=(l.drop 8).take 18++l.drop 26:=by
   conv=>lhs;rw [← List.take_append_drop 18 (l.drop 8),List.drop_drop]
  have a0:l=(l.drop 0).take 8++l.drop 8:=by
   rw [List.drop_zero,List.take_append_drop]
  rw [a0,a1,hrd,hp,← d26,hlb]
  rfl
theorem zrS {H:Type} {enc:TypeId × Value→H} {w:World} {fuel:Nat} {l:List Value} {x:DataW H × List MemPlace} (h:DataW.trod enc Tryz.prog w 0 (fun _=>true) true fuel 86 l=some x) :
  ∃ m:Mr,l=mroL m∧m.W:=by
 obtain ⟨xs,n,_,hx,hl,hlen,hfs⟩:=DataW.trod_struct Tryz.underlying86 h
 match xs,hlen with
 | [y0,y1,y2,y3,y4,y5,y6],_ =>
  have g0:=hfs 0 _ rfl
  have g1:=hfs 1 _ rfl
  have g2:=hfs 2 _ rfl
  have g3:=hfs 3 _ rfl
  have g4:=hfs 4 _ rfl
  have g5:=hfs 5 _ rfl
  have g6:=hfs 6 _ rfl
  have ci:Tryz.prog.cellsOf 3=1:=by kernel_rfl
  have cr:Tryz.prog.cellsOf 84=8:=by kernel_rfl
  have ca:Tryz.prog.cellsOf 25=17:=by kernel_rfl
  have cs1:Tryz.prog.cellsOf 9=1:=by kernel_rfl
  have e0:DataW.trod enc Tryz.prog w 0 (fun _=>true) true n 3 ((l.drop 0).take 1)=some y0:=by rw [← ci];exact g0
  have e1:DataW.trod enc Tryz.prog w 0 (fun _=>true) true n 84 ((l.drop 1).take 8)=some y1:=by rw [← cr];exact g1
  have e2:DataW.trod enc Tryz.prog w 0 (fun _=>true) true n 3 ((l.drop 9).take 1)=some y2:=by rw [← ci];exact g2
  have e3:DataW.trod enc Tryz.prog w 0 (fun _=>true) true n 25 ((l.drop 10).take 17)=some y3:=by rw [← ca];exact g3
  have e4:DataW.trod enc Tryz.prog w 0 (fun _=>true) true n 25 ((l.drop 27).take 17)=some y4:=by rw [← ca];exact g4
  have e5:DataW.trod enc Tryz.prog w 0 (fun _=>true) true n 25 ((l.drop 44).take 17)=some y5:=by rw [← ca];exact g5
  have e6:DataW.trod enc Tryz.prog w 0 (fun _=>true) true n 9 ((l.drop 61).take 1)=some y6:=by rw [← cs1];exact g6
  have hll:l.length=62:=hl.trans (by kernel_rfl)
  obtain ⟨k,hk,_,wk⟩:=DataW.trod_int Tryz.underlying3 e0
  obtain ⟨rd,hrd,hrl⟩:=zfp Tryz.underlying84 Tryz.underlying5 (by kernel_rfl) (by kernel_rfl) e1
  obtain ⟨a,ha,_,wa⟩:=DataW.trod_int Tryz.underlying3 e2
  obtain ⟨ss,sb,hs,hsl,hsw⟩:=zcU e3
  obtain ⟨gs,gb,hg,hgl,hgw⟩:=zcU e4
  obtain ⟨fs,fb,hff,hfl,hfw⟩:=zcU e5
  obtain ⟨ky,hky,_,_⟩:=DataW.trod_string Tryz.underlying9 e6
  have hcs:l=mroL ⟨k,rd,a,ss,sb,gs,gb,fs,fb,ky.data.toList⟩:=by
   have d61:(l.drop 61).take 1=l.drop 61:=List.take_of_length_le (by rw [List.length_drop,hll];decide)
   have a5:l.drop 44=(l.drop 44).take 17++l.drop 61:=by
    conv=>lhs;rw [← List.take_append_drop 17 (l.drop 44),List.drop_drop]
   have a4:l.drop 27=(l.drop 27).take 17++l.drop 44:=by
    conv=>lhs;rw [← List.take_append_drop 17 (l.drop 27),List.drop_drop]
   have a3:l.drop 10=(l.drop 10).take 17++l.drop 27:=by
    conv=>lhs;rw [← List.take_append_drop 17 (l.drop 10),List.drop_drop]
   have a2:l.drop 9=(l.drop 9).take 1++l.drop 10:=by
    conv=>lhs;rw [← List.take_append_drop 1 (l.drop 9),List.drop_drop]
   have a1:l.drop 1=(l.drop 1).take 8++l.drop 9:=by
    conv=>lhs;rw [← List.take_append_drop 8 (l.drop 1),List.drop_drop]
   have a0:l=(l.drop 0).take 1++l.drop 1:=by
    rw [List.drop_zero,List.take_append_drop]
   have hb:(⟨ky.data.toList.toArray⟩:ByteArray)=ky:=by cases ky;rfl
   rw [a0,a1,a2,a3,a4,a5,hk,hrd,ha,hs,hg,hff,← d61,hky]
   unfold mroL
   rw [hb]
  exact ⟨⟨k,rd,a,ss,sb,gs,gb,fs,fb,ky.data.toList⟩,hcs,⟨hrl,hsl,hgl,hfl⟩⟩
instance:Inhabited Ur:=⟨zeq⟩
instance:Inhabited Mr:=⟨⟨0,[],0,0,[],0,[],0,[],[]⟩⟩
instance:Inhabited TbP:=⟨⟨0,0,0,[],none,0,0,[],none,0,0,[]⟩⟩
end
section
set_option maxRecDepth 20000
set_option maxHeartbeats 2000000
open Go.RowKit
def zc3 (u:Up):Bool:=zbJ u.at_&&(fewT zc5 u.re&&(fewT (za1 false) u.un&&(decide (0<u.re.length)||zdL u.at_ zci)))
def zs6 (F:FuncId) (ok:Tb→Bool):Prop:=∀ (w:World) (lo hi:Nat) (x:TbP),mTb w lo hi x→wTb x→hi≤w.heap.size→FitT x→zaM w→∀ g:Nat,Blk w g 63 #[.func (.func F) #[] #[]] →
 Calls Tryz.prog 50 #[.agg (tbC x),.pointer (some ⟨g,0,none⟩)] w fun e w'=>e = .returned (.bool (!ok x.tb))∧Below w.heap.size w w'
theorem zh4:zs6 25 (zc5):=by
 intro w lo hi x hm hw hh hfit hN g hb
 have S0:=hide (TbS.start hm hw hh)
 have N0:=hide (hN.below S0.out.bl)
 have c0:(w.alloc (.cells (tbC x) 53)).cell? ⟨g,0,none⟩=some (.func (.func 25) #[] #[]):=(hb.alloc _).cell 0
 have RG:=hide S0.out.rng
 have HOB:=hide (zcZ hw)
 have HFT:=hide hfit
 have HH:=hide (show hi≤(w.alloc (.cells (tbC x) 53)).heap.size from Nat.le_trans hh S0.out.bl.size)
 obtain ⟨r,hr⟩:∃ r,zc5 x.tb=r:=⟨_,rfl⟩
 have HR:=hide hr
 rw [hr]
 clear hm hb hr hw hfit hN
 go_enter Tryz.func50,Tryz.ntmps50
 go_wp2_with ((with_reducible refine zan ?_ (.tmp 2) rfl w.heap.size 0 rfl x RG.out HOB.out ?_);· rfl)
 refine (zmN _ lo hi x S0.out.m S0.out.sz HH.out HFT.out N0.out).mono ?_
 rw [HR.out]
 rintro e w1 ⟨rfl,hb1⟩
 have S1:=hide (S0.out.on hb1)
 go_wp2
 go_ret
 exact ⟨rfl,S1.out.bl⟩
theorem zkM:zs6 26 (za1 false):=by
 intro w lo hi x hm hw hh hfit hN g hb
 have S0:=hide (TbS.start hm hw hh)
 have N0:=hide (hN.below S0.out.bl)
 have c0:(w.alloc (.cells (tbC x) 53)).cell? ⟨g,0,none⟩=some (.func (.func 26) #[] #[]):=(hb.alloc _).cell 0
 have RG:=hide S0.out.rng
 have HOB:=hide (zcZ hw)
 have HFT:=hide hfit
 have HH:=hide (show hi≤(w.alloc (.cells (tbC x) 53)).heap.size from Nat.le_trans hh S0.out.bl.size)
 obtain ⟨r,hr⟩:∃ r,za1 false x.tb=r:=⟨_,rfl⟩
 have HR:=hide hr
 rw [hr]
 clear hm hb hr hw hfit hN
 go_enter Tryz.func50,Tryz.ntmps50
 go_wp2_with ((with_reducible refine zan ?_ (.tmp 2) rfl w.heap.size 0 rfl x RG.out HOB.out ?_);· rfl)
 refine (zmL _ lo hi x S0.out.m S0.out.sz HH.out HFT.out N0.out).mono ?_
 rw [HR.out]
 rintro e w1 ⟨rfl,hb1⟩
 have S1:=hide (S0.out.on hb1)
 go_wp2
 go_ret
 exact ⟨rfl,S1.out.bl⟩
section
variable {F:FuncId} {ok:Tb→Bool}
set_option maxHeartbeats 1000000 in
theorem zpK (HF:zs6 F ok) (w:World) (lo hi:Nat) (A:Option Addr) (n c:Nat) (l:List TbP) (h:RowE tbL mTb wTb w lo hi A n l) (hh:hi≤w.heap.size) (hn:n≤1000000000000) (hfit:∀ x∈l,FitT x) (hN:zaM w) (g:Nat) (hb:Blk w g 63 #[.func (.func F) #[] #[]]) :
  Calls Tryz.prog 90 #[.slice A n c,.func (.func 50) #[] #[.pointer (some ⟨g,0,none⟩)]] w fun e w'=>∃ r:Int,e = .returned (.int .i64 r)∧decide (0≤r)=(!(l.map TbP.tb).all ok)∧Below w.heap.size w w':=by
 have H:=hide h
 have HL:=hide h.len
 have HB:=hide hb
 have HFT:=hide hfit
 have HNM:=hide hN
 have HJ:=hide HF
 clear h hb hfit hN HF
 go_enter Tryz.func90,Tryz.ntmps90
 go_wp2_with fail
 go_loopw [8] (fun i wr=>∃ k:Nat,k≤n∧i = .int .i64 k∧(∀ x∈l.take k,ok x.tb=true)∧Below w.heap.size w wr) (fun i _=>n-(intOf i).toNat)
 case atStart=>exact ⟨0,Nat.zero_le _,rfl,(fun x hx=>by simp at hx),Below.refl _ _⟩
 case round =>
  obtain ⟨k,hk,rfl,hall,hbel⟩:=hrel
  have HA:=hide hall
  have WB:=hide hbel
  clear hall hbel
  by_cases hlt:k<n
  ·have YR:=hide (H.out.below mkTb (WB.out.mono hh))
   obtain ⟨b,o,x,rfl,_,_,hx,hat⟩:=YR.out.row.at_ (sz:=21) (fun y hy=>zgm (YR.out.sz y hy)) hlt
   have hmem:=List.mem_of_getElem? hx
   have HM:=hide (YR.out.mem x hmem)
   have HWX:=hide (YR.out.sz x hmem)
   have HOB:=hide (zcZ HWX.out)
   have XF:=hide (HFT.out x hmem)
   have N1:=hide (HNM.out.below WB.out)
   have HX:=hide hx
   have HAT:=hide hat
   have HG:=hide (HB.out.over WB.out)
   have hh1:=Nat.le_trans hh WB.out.size
   obtain ⟨r,hr⟩:∃ r,ok x.tb=r:=⟨_,rfl⟩
   have HR:=hide hr
   have hkl:((k:Nat):Int)<(n:Int):=by omega
   clear hx hat hmem hr YR
   go_wp2_with ((with_reducible refine zan ?_ (.tmp 14) rfl b (o+k*21) rfl x HAT.out HOB.out ?_);· rfl)
   refine (HJ.out wr lo hi x HM.out HWX.out hh1 XF.out N1.out g HG.out).mono ?_
   rw [HR.out]
   rintro e w1 ⟨rfl,hb1⟩
   have WB1:=hide (zaa WB.out hb1 (Nat.le_refl _))
   clear hb1
   cases r
   ·have HF:Hid ((l.map TbP.tb).all ok=false):=hide (List.all_eq_false.2 ⟨x.tb,List.mem_map.2 ⟨x,List.mem_of_getElem? HX.out,rfl⟩,by rw [HR.out];decide⟩)
    go_wp2_with fail
    go_ret
    exact ⟨_,rfl,by rw [HF.out];exact decide_eq_true (by omega),WB1.out⟩
   ·have HNX:Hid (∀ y∈l.take (k+1),ok y.tb=true):=hide (by
     intro y hy
     rw [List.take_add_one,HX.out] at hy
     rcases List.mem_append.1 hy with hy | hy
     ·exact HA.out y hy
     ·rw [show y=x by simpa using hy];exact HR.out)
    go_wp2_with fail
    go_roundw
    case rel=>exact ⟨k+1,by omega,by go_num,HNX.out,WB1.out⟩
    case measure=>simp [intOf];omega
  ·obtain rfl:k=n:=by omega
   have HF:Hid ((l.map TbP.tb).all ok=true):=hide (by
    rw [List.all_eq_true]
    intro y hy
    obtain ⟨x,hx,rfl⟩:=List.mem_map.1 hy
    exact HA.out x (by rw [List.take_of_length_le (by rw [HL.out];exact Nat.le_refl _)];exact hx))
   go_wp2
   go_ret
   exact ⟨_,rfl,by rw [HF.out];rfl,WB.out⟩
theorem zk2 (HF:zs6 F ok) (w:World) (lo hi:Nat) (A:Option Addr) (n c:Nat) (l:List TbP) (h:RowE tbL mTb wTb w lo hi A n l) (hh:hi≤w.heap.size) (hn:n≤1000000000000) (hfit:∀ x∈l,FitT x) (hN:zaM w) (g:Nat) (hb:Blk w g 63 #[.func (.func F) #[] #[]]) :
  Calls Tryz.prog 51 #[.slice A n c,.func (.func 50) #[] #[.pointer (some ⟨g,0,none⟩)]] w fun e w'=>e = .returned (.bool (!(l.map TbP.tb).all ok))∧Below w.heap.size w w':=by
 have HC:=hide (zpK HF w lo hi A n c l h hh hn hfit hN g hb)
 obtain ⟨q,hq⟩:∃ q,(l.map TbP.tb).all ok=q:=⟨_,rfl⟩
 have HQ:=hide hq
 rw [hq]
 clear h hb hq HF hfit hN
 go_enter Tryz.func51,Tryz.ntmps51
 go_wp2_with fail
 refine HC.out.mono ?_
 rintro e w1 ⟨r,rfl,hr,hb1⟩
 rw [HQ.out] at hr
 cases q
 ·have h0:(0:Int)≤r:=of_decide_eq_true hr
  clear hr
  go_wp2
  go_ret
  exact ⟨rfl,hb1⟩
 ·have h0:¬ (0:Int)≤r:=of_decide_eq_false hr
  clear hr
  go_wp2
  go_ret
  exact ⟨by show Ending.returned (.bool (decide (0≤r)))=_;rw [decide_eq_false (by omega)];rfl,hb1⟩
theorem zeE (HF:zs6 F ok) (w:World) (lo hi:Nat) (A:Option Addr) (n c:Nat) (l:List TbP) (h:RowE tbL mTb wTb w lo hi A n l) (hh:hi≤w.heap.size) (hfit:∀ x∈l,FitT x) (hN:zaM w) :
  Calls Tryz.prog 24 #[.slice A n c,.func (.func F) #[] #[]] w fun e w'=>e = .returned (.bool (fewT ok (l.map TbP.tb)))∧Below w.heap.size w w':=by
 unfold fewT
 rw [List.length_map,h.len]
 have H:Hid (RowE tbL mTb wTb (w.alloc (.cells #[.func (.func F) #[] #[]] 63)) lo hi A n l):=hide (h.keep mkTb fun p _ hp=>World.cell?_alloc_lt w _ p (by omega))
 have HB:Hid (Blk (w.alloc (.cells #[.func (.func F) #[] #[]] 63)) w.heap.size 63 #[.func (.func F) #[] #[]]):=hide (Blk.new w _ _)
 have B0:Hid (Below w.heap.size w (w.alloc (.cells #[.func (.func F) #[] #[]] 63))):=hide ((Below.refl _ _).alloc (Nat.le_refl _) _)
 have hh0:hi≤(w.alloc (.cells #[.func (.func F) #[] #[]] 63)).heap.size:=by simp;omega
 have N0:=hide (hN.below B0.out)
 have HFT:=hide hfit
 have HJ:=hide HF
 clear h hfit hN HF
 by_cases hn:n≤1
 ·have hnI:(n:Int)≤1:=by omega
  rw [decide_eq_true hn,Bool.true_and]
  obtain ⟨r,hr⟩:∃ r,(l.map TbP.tb).all ok=r:=⟨_,rfl⟩
  have HR:=hide hr
  rw [hr]
  clear hr
  go_enter Tryz.func24,Tryz.ntmps24
  go_wp2_with fail
  refine (zk2 HJ.out _ lo hi A n c l H.out hh0 (by omega) HFT.out N0.out w.heap.size HB.out).mono ?_
  rw [HR.out]
  rintro e w1 ⟨rfl,hb1⟩
  have W1:=hide (zaa B0.out hb1 (by simp))
  clear hb1
  go_wp2
  go_ret
  exact ⟨by cases r <;> rfl,W1.out⟩
 ·have hnI:¬ (n:Int)≤1:=by omega
  rw [decide_eq_false hn,Bool.false_and]
  go_enter Tryz.func24,Tryz.ntmps24
  go_wp2
  go_ret
  exact ⟨rfl,B0.out⟩
end
structure FitU (u:UpP):Prop where
 at_:zbJ u.at_.ats=true→Fit9 u.at_
 re:∀ x∈u.re,FitT x
 ne:∀ x∈u.ne,FitT x
structure UgS (w y:World) (lo hi:Nat) (u:UpP):Prop where
 s:UpS w y lo hi u
 n:zaM y
section
variable {w y z:World} {lo hi:Nat} {u:UpP}
theorem UgS.on (h:UgS w y lo hi u) (hb:Below y.heap.size y z):UgS w z lo hi u:=⟨h.s.on hb,h.n.below hb⟩
theorem UgS.drew (h:UgS w y lo hi u):UgS w y.drew lo hi u:=h.on (zal (Below.refl _ _))
end
theorem ztM (w:World) (lo hi:Nat) (u:UpP) (h:UpAt w lo hi u) (hh:hi≤w.heap.size) (hfit:FitU u) (hN:zaM w) (H1:Hid (zbJ u.at_.ats=false)) :
  Calls Tryz.prog 10 #[.agg (updC u)] w fun e w'=>e = .returned (.bool false)∧Below w.heap.size w w':=by
 have S0:=hide (UpS.start h hh)
 have Q0:Hid (UgS w (w.alloc (.cells (updC u) 33)) lo hi u):=hide ⟨S0.out,hN.below S0.out.bl⟩
 have HFT:=hide hfit
 have HOB:=hide h.ob
 clear h hfit hN S0
 go_enter Tryz.func10,Tryz.ntmps10
 go_wp2_with fail
 refine wp_region_held_drew (S:=fun z=>UgS w z lo hi u) (by kernel_rfl) Q0.out.drew (fun hHeld=>?_)
 refine rgT 0 ?_
 refine rgV 1 (.agg (attC u.at_)) (fun w' hSw=>za5 (.tmp 3) rfl w.heap.size 0 rfl hSw.s.ratt HOB.out) ?_
 refine zae (i:=2) rfl (by kernel_rfl) (by rfl) (zcL _ lo hi u.at_ hHeld.s.at_.at_ hHeld.s.here) (fun w=>by kernel_rfl) ?_
 rw [H1.out]
 rintro e w1 ⟨rfl,hb1⟩
 refine ⟨_,rfl,hHeld.on hb1,fun hHeld=>?_⟩
 refine rgN ?_
 refine rgT 3 ?_
 refine rgS 4 ?_
 refine rgS 5 ?_
 refine rgS 6 ?_
 refine rgT 7 ?_
 refine rgT 8 ?_
 refine rgS 9 ?_
 refine rgS 10 ?_
 refine rgS 11 ?_
 refine rgT 12 ?_
 refine rgT 13 ?_
 refine rgS 14 ?_
 refine rgS 15 ?_
 refine rgS 16 ?_
 refine rgS 17 ?_
 refine rgS 18 ?_
 refine rgS 19 ?_
 refine rgS 20 ?_
 refine rgS 21 ?_
 refine rgS 22 ?_
 refine rgS 23 ?_
 refine rgT 24 ?_
 refine rgT 25 ?_
 refine wpAnyH_done (by kernel_rfl) ?_ _
 go_wp2_with fail
 go_ret
 exact ⟨rfl,hHeld.s.bl⟩
theorem ztL (w:World) (lo hi:Nat) (u:UpP) (h:UpAt w lo hi u) (hh:hi≤w.heap.size) (hfit:FitU u) (hN:zaM w) (H1:Hid (zbJ u.at_.ats=true)) (H2:Hid (fewT zc5 (u.re.map TbP.tb)=false)) :
  Calls Tryz.prog 10 #[.agg (updC u)] w fun e w'=>e = .returned (.bool false)∧Below w.heap.size w w':=by
 have S0:=hide (UpS.start h hh)
 have Q0:Hid (UgS w (w.alloc (.cells (updC u) 33)) lo hi u):=hide ⟨S0.out,hN.below S0.out.bl⟩
 have HFT:=hide hfit
 have HOB:=hide h.ob
 clear h hfit hN S0
 go_enter Tryz.func10,Tryz.ntmps10
 go_wp2_with fail
 refine wp_region_held_drew (S:=fun z=>UgS w z lo hi u) (by kernel_rfl) Q0.out.drew (fun hHeld=>?_)
 refine rgT 0 ?_
 refine rgV 1 (.agg (attC u.at_)) (fun w' hSw=>za5 (.tmp 3) rfl w.heap.size 0 rfl hSw.s.ratt HOB.out) ?_
 refine zae (i:=2) rfl (by kernel_rfl) (by rfl) (zcL _ lo hi u.at_ hHeld.s.at_.at_ hHeld.s.here) (fun w=>by kernel_rfl) ?_
 rw [H1.out]
 rintro e w1 ⟨rfl,hb1⟩
 refine ⟨_,rfl,hHeld.on hb1,fun hHeld=>?_⟩
 refine rgN ?_
 refine rgT 3 ?_
 refine rgT 4 ?_
 refine rgK 5 (fun w' hSw=>hSw.s.c24) ?_
 refine zae (i:=6) rfl (by kernel_rfl) (by rfl) (zeE zh4 _ lo hi u.rA u.rn u.rc u.re hHeld.s.at_.re hHeld.s.here HFT.out.re hHeld.n) (fun w=>by kernel_rfl) ?_
 rw [H2.out]
 rintro e w2 ⟨rfl,hb2⟩
 refine ⟨_,rfl,hHeld.on hb2,fun hHeld=>?_⟩
 refine rgN ?_
 refine rgT 7 ?_
 refine rgT 8 ?_
 refine rgS 9 ?_
 refine rgS 10 ?_
 refine rgS 11 ?_
 refine rgT 12 ?_
 refine rgT 13 ?_
 refine rgS 14 ?_
 refine rgS 15 ?_
 refine rgS 16 ?_
 refine rgS 17 ?_
 refine rgS 18 ?_
 refine rgS 19 ?_
 refine rgS 20 ?_
 refine rgS 21 ?_
 refine rgS 22 ?_
 refine rgS 23 ?_
 refine rgT 24 ?_
 refine rgT 25 ?_
 refine wpAnyH_done (by kernel_rfl) ?_ _
 go_wp2_with fail
 go_ret
 exact ⟨rfl,hHeld.s.bl⟩
theorem ztK (w:World) (lo hi:Nat) (u:UpP) (h:UpAt w lo hi u) (hh:hi≤w.heap.size) (hfit:FitU u) (hN:zaM w) (H1:Hid (zbJ u.at_.ats=true)) (H2:Hid (fewT zc5 (u.re.map TbP.tb)=true)) (H3:Hid (fewT (za1 false) (u.ne.map TbP.tb)=false)) :
  Calls Tryz.prog 10 #[.agg (updC u)] w fun e w'=>e = .returned (.bool false)∧Below w.heap.size w w':=by
 have S0:=hide (UpS.start h hh)
 have Q0:Hid (UgS w (w.alloc (.cells (updC u) 33)) lo hi u):=hide ⟨S0.out,hN.below S0.out.bl⟩
 have HFT:=hide hfit
 have HOB:=hide h.ob
 clear h hfit hN S0
 go_enter Tryz.func10,Tryz.ntmps10
 go_wp2_with fail
 refine wp_region_held_drew (S:=fun z=>UgS w z lo hi u) (by kernel_rfl) Q0.out.drew (fun hHeld=>?_)
 refine rgT 0 ?_
 refine rgV 1 (.agg (attC u.at_)) (fun w' hSw=>za5 (.tmp 3) rfl w.heap.size 0 rfl hSw.s.ratt HOB.out) ?_
 refine zae (i:=2) rfl (by kernel_rfl) (by rfl) (zcL _ lo hi u.at_ hHeld.s.at_.at_ hHeld.s.here) (fun w=>by kernel_rfl) ?_
 rw [H1.out]
 rintro e w1 ⟨rfl,hb1⟩
 refine ⟨_,rfl,hHeld.on hb1,fun hHeld=>?_⟩
 refine rgN ?_
 refine rgT 3 ?_
 refine rgT 4 ?_
 refine rgK 5 (fun w' hSw=>hSw.s.c24) ?_
 refine zae (i:=6) rfl (by kernel_rfl) (by rfl) (zeE zh4 _ lo hi u.rA u.rn u.rc u.re hHeld.s.at_.re hHeld.s.here HFT.out.re hHeld.n) (fun w=>by kernel_rfl) ?_
 rw [H2.out]
 rintro e w2 ⟨rfl,hb2⟩
 refine ⟨_,rfl,hHeld.on hb2,fun hHeld=>?_⟩
 refine rgN ?_
 refine rgT 7 ?_
 refine rgT 8 ?_
 refine rgT 9 ?_
 refine rgK 10 (fun w' hSw=>hSw.s.c25) ?_
 refine zae (i:=11) rfl (by kernel_rfl) (by rfl) (zeE zkM _ lo hi u.nA u.nn u.nc u.ne hHeld.s.at_.ne hHeld.s.here HFT.out.ne hHeld.n) (fun w=>by kernel_rfl) ?_
 rw [H3.out]
 rintro e w3 ⟨rfl,hb3⟩
 refine ⟨_,rfl,hHeld.on hb3,fun hHeld=>?_⟩
 refine rgN ?_
 refine rgT 12 ?_
 refine rgT 13 ?_
 refine rgS 14 ?_
 refine rgS 15 ?_
 refine rgS 16 ?_
 refine rgS 17 ?_
 refine rgS 18 ?_
 refine rgS 19 ?_
 refine rgS 20 ?_
 refine rgS 21 ?_
 refine rgS 22 ?_
 refine rgS 23 ?_
 refine rgT 24 ?_
 refine rgT 25 ?_
 refine wpAnyH_done (by kernel_rfl) ?_ _
 go_wp2_with fail
 go_ret
 exact ⟨rfl,hHeld.s.bl⟩
theorem ztJ (w:World) (lo hi:Nat) (u:UpP) (h:UpAt w lo hi u) (hh:hi≤w.heap.size) (hfit:FitU u) (hN:zaM w) (H1:Hid (zbJ u.at_.ats=true)) (H2:Hid (fewT zc5 (u.re.map TbP.tb)=true)) (H3:Hid (fewT (za1 false) (u.ne.map TbP.tb)=true)) (hr:(0:Int)<(u.rn:Int)) :
  Calls Tryz.prog 10 #[.agg (updC u)] w fun e w'=>e = .returned (.bool true)∧Below w.heap.size w w':=by
 have S0:=hide (UpS.start h hh)
 have Q0:Hid (UgS w (w.alloc (.cells (updC u) 33)) lo hi u):=hide ⟨S0.out,hN.below S0.out.bl⟩
 have HFT:=hide hfit
 have HOB:=hide h.ob
 clear h hfit hN S0
 go_enter Tryz.func10,Tryz.ntmps10
 go_wp2_with fail
 refine wp_region_held_drew (S:=fun z=>UgS w z lo hi u) (by kernel_rfl) Q0.out.drew (fun hHeld=>?_)
 refine rgT 0 ?_
 refine rgV 1 (.agg (attC u.at_)) (fun w' hSw=>za5 (.tmp 3) rfl w.heap.size 0 rfl hSw.s.ratt HOB.out) ?_
 refine zae (i:=2) rfl (by kernel_rfl) (by rfl) (zcL _ lo hi u.at_ hHeld.s.at_.at_ hHeld.s.here) (fun w=>by kernel_rfl) ?_
 rw [H1.out]
 rintro e w1 ⟨rfl,hb1⟩
 refine ⟨_,rfl,hHeld.on hb1,fun hHeld=>?_⟩
 refine rgN ?_
 refine rgT 3 ?_
 refine rgT 4 ?_
 refine rgK 5 (fun w' hSw=>hSw.s.c24) ?_
 refine zae (i:=6) rfl (by kernel_rfl) (by rfl) (zeE zh4 _ lo hi u.rA u.rn u.rc u.re hHeld.s.at_.re hHeld.s.here HFT.out.re hHeld.n) (fun w=>by kernel_rfl) ?_
 rw [H2.out]
 rintro e w2 ⟨rfl,hb2⟩
 refine ⟨_,rfl,hHeld.on hb2,fun hHeld=>?_⟩
 refine rgN ?_
 refine rgT 7 ?_
 refine rgT 8 ?_
 refine rgT 9 ?_
 refine rgK 10 (fun w' hSw=>hSw.s.c25) ?_
 refine zae (i:=11) rfl (by kernel_rfl) (by rfl) (zeE zkM _ lo hi u.nA u.nn u.nc u.ne hHeld.s.at_.ne hHeld.s.here HFT.out.ne hHeld.n) (fun w=>by kernel_rfl) ?_
 rw [H3.out]
 rintro e w3 ⟨rfl,hb3⟩
 refine ⟨_,rfl,hHeld.on hb3,fun hHeld=>?_⟩
 refine rgN ?_
 refine rgT 12 ?_
 refine rgT 13 ?_
 refine rgT 14 ?_
 refine rgK 15 (fun w' hSw=>hSw.s.c24) ?_
 refine rgT 16 ?_
 refine rgV 17 (.bool true) ?_ ?_
 ·(intro w' hSw;(try dsimp only at hSw);go_simp <;> first | rfl | omega)
 refine rgT 18 ?_
 refine rgS 19 ?_
 refine rgS 20 ?_
 refine rgS 21 ?_
 refine rgS 22 ?_
 refine rgT 23 ?_
 refine rgT 24 ?_
 refine rgT 25 ?_
 refine wpAnyH_done (by kernel_rfl) ?_ _
 go_wp2_with fail
 go_ret
 exact ⟨rfl,hHeld.s.bl⟩
theorem ztI (w:World) (lo hi:Nat) (u:UpP) (h:UpAt w lo hi u) (hh:hi≤w.heap.size) (hfit:FitU u) (hN:zaM w) (H1:Hid (zbJ u.at_.ats=true)) (H2:Hid (fewT zc5 (u.re.map TbP.tb)=true)) (H3:Hid (fewT (za1 false) (u.ne.map TbP.tb)=true)) (hr:¬ (0:Int)<(u.rn:Int)) :
  Calls Tryz.prog 10 #[.agg (updC u)] w fun e w'=>e = .returned (.bool (zdL u.at_.ats zci))∧Below w.heap.size w w':=by
 have S0:=hide (UpS.start h hh)
 have Q0:Hid (UgS w (w.alloc (.cells (updC u) 33)) lo hi u):=hide ⟨S0.out,hN.below S0.out.bl⟩
 have HFT:=hide hfit
 have HOB:=hide h.ob
 clear h hfit hN S0
 go_enter Tryz.func10,Tryz.ntmps10
 go_wp2_with fail
 refine wp_region_held_drew (S:=fun z=>UgS w z lo hi u) (by kernel_rfl) Q0.out.drew (fun hHeld=>?_)
 refine rgT 0 ?_
 refine rgV 1 (.agg (attC u.at_)) (fun w' hSw=>za5 (.tmp 3) rfl w.heap.size 0 rfl hSw.s.ratt HOB.out) ?_
 refine zae (i:=2) rfl (by kernel_rfl) (by rfl) (zcL _ lo hi u.at_ hHeld.s.at_.at_ hHeld.s.here) (fun w=>by kernel_rfl) ?_
 rw [H1.out]
 rintro e w1 ⟨rfl,hb1⟩
 refine ⟨_,rfl,hHeld.on hb1,fun hHeld=>?_⟩
 refine rgN ?_
 refine rgT 3 ?_
 refine rgT 4 ?_
 refine rgK 5 (fun w' hSw=>hSw.s.c24) ?_
 refine zae (i:=6) rfl (by kernel_rfl) (by rfl) (zeE zh4 _ lo hi u.rA u.rn u.rc u.re hHeld.s.at_.re hHeld.s.here HFT.out.re hHeld.n) (fun w=>by kernel_rfl) ?_
 rw [H2.out]
 rintro e w2 ⟨rfl,hb2⟩
 refine ⟨_,rfl,hHeld.on hb2,fun hHeld=>?_⟩
 refine rgN ?_
 refine rgT 7 ?_
 refine rgT 8 ?_
 refine rgT 9 ?_
 refine rgK 10 (fun w' hSw=>hSw.s.c25) ?_
 refine zae (i:=11) rfl (by kernel_rfl) (by rfl) (zeE zkM _ lo hi u.nA u.nn u.nc u.ne hHeld.s.at_.ne hHeld.s.here HFT.out.ne hHeld.n) (fun w=>by kernel_rfl) ?_
 rw [H3.out]
 rintro e w3 ⟨rfl,hb3⟩
 refine ⟨_,rfl,hHeld.on hb3,fun hHeld=>?_⟩
 refine rgN ?_
 refine rgT 12 ?_
 refine rgT 13 ?_
 refine rgT 14 ?_
 refine rgK 15 (fun w' hSw=>hSw.s.c24) ?_
 refine rgT 16 ?_
 refine rgV 17 (.bool false) ?_ ?_
 ·(intro w' hSw;(try dsimp only at hSw);go_simp <;> first | rfl | omega)
 refine rgT 18 ?_
 refine rgT 19 ?_
 refine rgV 20 (.agg (attC u.at_)) (fun w' hSw=>za5 (.tmp 22) rfl w.heap.size 0 rfl hSw.s.ratt HOB.out) ?_
 refine zae (i:=21) rfl (by kernel_rfl) (by rfl) (zdZ _) (fun w=>by kernel_rfl) ?_
 rintro e w4 ⟨rfl,hb4⟩
 refine ⟨_,rfl,hHeld.on hb4,fun hHeld=>?_⟩
 refine rgN ?_
 refine zae (i:=22) rfl (by kernel_rfl) (by rfl) (znS w4 lo hi w4.heap.size w4.heap.size u.at_ zeB hHeld.s.at_.at_ (zd7 _ _ _) hHeld.s.here (Nat.le_refl _) (HFT.out.at_ H1.out)) (fun w=>by kernel_rfl) ?_
 rintro e w5 ⟨rfl,hb5⟩
 refine ⟨_,rfl,hHeld.on hb5,fun hHeld=>?_⟩
 refine rgN ?_
 refine rgT 23 ?_
 refine rgT 24 ?_
 refine rgT 25 ?_
 refine wpAnyH_done (by kernel_rfl) ?_ _
 go_wp2_with fail
 go_ret
 exact ⟨by rw [zt9];cases zdL u.at_.ats zci <;> rfl,hHeld.s.bl⟩
theorem zo5 (w:World) (lo hi:Nat) (u:UpP) (h:UpAt w lo hi u) (hh:hi≤w.heap.size) (hfit:FitU u) (hN:zaM w) :
  Calls Tryz.prog 10 #[.agg (updC u)] w fun e w'=>e = .returned (.bool (zc3 u.up))∧Below w.heap.size w w':=by
 have hl:(u.re.map TbP.tb).length=u.rn:=by rw [List.length_map,h.re.len]
 have e:zc3 u.up=(zbJ u.at_.ats&&(fewT zc5 (u.re.map TbP.tb)&&(fewT (za1 false) (u.ne.map TbP.tb)&&(decide (0<u.rn)||zdL u.at_.ats zci)))):=by rw [← hl];rfl
 rw [e]
 cases h1:zbJ u.at_.ats
 ·exact ztM w lo hi u h hh hfit hN (hide h1)
 ·cases h2:fewT zc5 (u.re.map TbP.tb)
  ·exact ztL w lo hi u h hh hfit hN (hide h1) (hide h2)
  ·cases h3:fewT (za1 false) (u.ne.map TbP.tb)
   ·exact ztK w lo hi u h hh hfit hN (hide h1) (hide h2) (hide h3)
   ·by_cases hr:0<u.rn
    ·rw [decide_eq_true hr]
     exact ztJ w lo hi u h hh hfit hN (hide h1) (hide h2) (hide h3) (by omega)
    ·rw [decide_eq_false hr]
     exact ztI w lo hi u h hh hfit hN (hide h1) (hide h2) (hide h3) (by omega)
end
section
open Go.RowKit
set_option maxRecDepth 20000 in
set_option maxHeartbeats 2000000 in
theorem zoq (w:World) (lo g:Nat) (bs:List UInt8) (bad:Bool) (h:Rd w lo g bs bad) :
  Calls Tryz.prog 159 #[.pointer (some ⟨g,0,none⟩)] w fun e w'=>e = .returned (.agg (zaq (ofS (zab bs 4)) (ofB (zab bs 4))))∧Rd w' lo g (zaf bs 4) (bad||!zbs bs 4)∧w.grownBy w' (some g):=by
 have hgl:=h.lt
 have RES:=hide (Blk.new w 25 zAdr)
 have R0:Hid (Rd (w.alloc (.cells zAdr 25)) lo g bs bad):=hide (h.keep (zaN (zad w none) _) (by simp))
 have G0:Hid (w.grownBy (w.alloc (.cells zAdr 25)) (some g)):=hide (zaN (zad w _) _)
 have hq:w.heap.size+1≤(w.alloc (.cells zAdr 25)).heap.size:=by simp
 clear h
 go_enter Tryz.func159,Tryz.ntmps159
 go_wp2_with fail
 generalize hw0:w.alloc (.cells zAdr 25)=w0 at *
 clear hw0
 refine (zaZ w0 lo g bs bad R0.out 4 (by decide)).mono ?_
 rintro e w1 ⟨v1,rfl,ho1,hr1,hg1⟩
 obtain ⟨A1,c1,rfl,_,_⟩:=zac ho1
 have O1:=hide ho1
 have R1:=hide hr1
 have B1:=hide (RES.out.grown hg1 (fun e=>by injection e;omega))
 have G1:=hide (zak G0.out hg1)
 have hq1:=Nat.le_trans hq hg1.size
 clear ho1 hr1 hg1 R0 RES G0 hq
 go_wp2_with fail
 refine (zhw w1 _ _ A1 _ c1 _ (At.own O1.out) (Nat.le_refl _)).mono ?_
 obtain ⟨S,hS⟩:∃ S,ofS (zab bs 4)=S:=⟨_,rfl⟩
 obtain ⟨BB,hB⟩:∃ BB,ofB (zab bs 4)=BB:=⟨_,rfl⟩
 have hbl:BB.length=16:=by rw [← hB];exact zb0 _
 rw [hS,hB]
 rintro e w2 ⟨rfl,hb2⟩
 have R2:=hide (R1.out.keep (zaT hb2 none) (by simp))
 have B2:=hide (B1.out.over hb2)
 have G2:=hide (zak G1.out (zaT hb2 _))
 have hq2:=Nat.le_trans hq1 hb2.size
 have NEW:=hide (Blk.new w2 25 zAdr)
 have HSS:=hide hS
 have HBB:=hide hB
 clear hb2 R1 B1 G1 O1 hS hB
 go_wp2_with (refine zaB rfl (.tmp 3) (.tmp 9) rfl w2.heap.size rfl rfl hbl NEW.out rfl ?_;intro w3 hb3 hg3;have B3:=hide hb3;have G3:=hide hg3;clear hb3 hg3;refine Hid.out ?_)
 refine hide ?_
 have hg23:w2.grownBy w3 none:=⟨G3.out.os,G3.out.tape,G3.out.output,Nat.le_trans (by simp) G3.out.size,fun k hk _=>(G3.out.block k (by simp;omega) (fun e=>by injection e;omega)).trans (Below.heap_alloc w2 _ k hk)⟩
 have R3:=hide (R2.out.keep hg23 (by simp))
 have C3:=hide (B2.out.grown hg23 (by simp))
 have G23:=hide (zak G2.out (show w2.grownBy w3 (some g) from ⟨hg23.os,hg23.tape,hg23.output,hg23.size,fun k hk _=>hg23.block k hk (by simp)⟩))
 clear hg23 G3 NEW R2 B2 G2
 go_wp2_with (first
  | (with_reducible refine zaF rfl (.tmp 3) rfl w2.heap.size rfl B3.out hbl ?_)
  | (refine zaB rfl (.tmp 2) (.tmp 11) rfl w.heap.size rfl rfl hbl C3.out rfl ?_;intro w4 hb4 hg4;have B4:=hide hb4;have G4:=hide hg4;clear hb4 hg4;refine Hid.out ?_))
 refine hide ?_
 go_wp2
 refine zlJ (p:=2) rfl rfl B4.out hbl rfl ?_
 refine ⟨by rw [HSS.out,HBB.out],R3.out.keep G4.out (fun k hk=>by injection hk;exact .inr (by omega)),zl1 G23.out G4.out (Nat.le_refl _)⟩
theorem zwX {w:World} {base n c:Nat} {A:Option Addr} {l:List B8} (hl:l.length=n) (h:w.ownsRow base 105 8 (.slice A n c) n (bvs (zbb l))):AtE w base w.heap.size A n l:=by
 refine ⟨hl,by rw [zcB,hl],fun hn=>?_⟩
 rcases h.2 with ⟨_,h2⟩ | ⟨g,cap,cur,h1,h2,h3,h4,h5,h6,h7⟩
 ·omega
 ·injection h1 with e1 e2 e3
  have hb:Blk w g 105 cur:=h3
  refine ⟨g,0,e1,h2,hb.lt,fun k u hu=>?_⟩
  rw [Nat.zero_add,hb.cell]
  have h8:(bvs (zbb l))[k]?=some (bv u):=by unfold bvs;rw [List.getElem?_map,hu];rfl
  rw [← h7,List.getElem?_take] at h8
  split at h8
  ·simpa using h8
  ·cases h8
end
section
open Go.RowKit
theorem zwZ:(Tryz.prog.info? 25).map (fun i=>(i.zero.map (·.cells.size),i.size,i.bytes))=some (some 17,17,24):=by kernel_rfl
theorem zuU:∃ (i:TypeInfo) (z:Value),Tryz.prog.info? 25=some i∧i.zero=some z∧i.size=17∧i.bytes=24∧z.cells.size=17:=by
 have h:=zwZ
 cases hq:Tryz.prog.info? 25 with
 | none=>rw [hq] at h;cases h
 | some i =>
  rw [hq] at h
  simp only [Option.map_some,Option.some.injEq,Prod.mk.injEq] at h
  cases hz:i.zero with
  | none=>rw [hz] at h;simp at h
  | some z =>
   rw [hz] at h
   simp at h
   exact ⟨i,z,rfl,hz,h.2.1,h.2.2,h.1⟩
theorem zvk:∃ z:Value,z.cells.size=17∧∀ w,(zeroValue 25).run Tryz.prog w = .ok z w:=⟨_,by kernel_rfl,Tryz.zeroValue25⟩
theorem zju {o:Oper} {a:Act} (w:World) (x:Operand) (ho:o.op = .buildSlice 26 1 #[(0,x)]) {s:Int} {b:List UInt8} (hl:b.length=16) (ex:a.eval x = .agg (zaq s b)) :
  (execOp a.eval o).run Tryz.prog w = .ok (.value (.slice (some ⟨w.heap.size,0,none⟩) 1 1)) (w.alloc (.cells (zaq s b) 25)):=by
 obtain ⟨z,hz,hz2⟩:=zvk
 have h:=zbN (P:=Tryz.prog) w 26 25 (zaq s b) z Tryz.underlying26 (fun w=>Tryz.sizeOf25 w) hz2 hz (zcv s hl) (by decide) (by decide)
 unfold execOp
 simp only [ho,List.map_toArray,List.map_cons,List.map_nil,ex,Sem.run_bind,h,Result.andThen_ok,Sem.run_pure]
theorem zw0 (x:Int × List UInt8):∀ u∈adL x,u.oneCell'=true:=fun u hu=>by
 simp only [adL,List.mem_cons] at hu
 rcases hu with rfl | hu
 ·rfl
 ·exact zb4 _ u hu
theorem zjj (w:World) (base:Nat) (ty:TypeId) (v:Value) (n:Nat) (xs:List (Int × List UInt8)) (hown:w.ownsRow base 25 17 v n (za4 adL xs)) (lo hi':Nat) (A:Option Addr) (m c:Nat) (news:List (Int × List UInt8)) (hs:∀ x∈news,x.2.length=16) (hr:AtG adL w lo hi' A m news)
  (hb:n+m≤1000000000000) (hbase:base≤w.heap.size) :
  ∃ v' w',(Builtin.append_ #[26,26] ty #[v,.slice A m c]).run Tryz.prog w = .ok v' w'∧w'.ownsRow base 25 17 v' (n+m) (za4 adL (xs++news))∧w.grownBy w' v.ownBlock∧(v'.ownBlock=v.ownBlock∨v'.ownBlock=some w.heap.size):=by
 obtain ⟨i,z,hi,hz,h1,h2,h3⟩:=zuU
 exact zcn (P:=Tryz.prog) w base 26 ty 25 i z 24 Tryz.underlying26 hi hz h1 h2 h3 (by decide) v n xs hown lo hi' A m c news hr (fun y hy=>zfm (hs y hy)) (fun y hy=>zw0 y) (by omega) (by unfold maxLen;omega) hbase
theorem zei {a b c:World} {g:Nat} {row:Option Nat} (h:a.grownBy b (some g)) (k:b.grownBy c row) (hr:∀ q,row=some q→a.heap.size≤q):a.grownBy c (some g) :=
 ⟨k.os.trans h.os,k.tape.trans h.tape,k.output.trans h.output,Nat.le_trans h.size k.size,fun i hi hne=>(k.block i (Nat.lt_of_lt_of_le hi h.size) (fun e=>by have:=hr _ e.symm;omega)).trans (h.block i hi hne)⟩
end
end Go.Proofs.YtookpplebikfnaaGreatDoor
