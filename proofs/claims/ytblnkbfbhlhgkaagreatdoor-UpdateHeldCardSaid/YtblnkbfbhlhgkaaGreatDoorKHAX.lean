/-
  What readersOf and read of package mroute do, in whatever memory. The one condition: the program's table holds what its text lays.
  What keyed, rightFlow, rightFrom, rightKey and Right of package mroute do, in whatever memory. The one condition beyond sizes that fit memory: the program's table holds what its text lays.
-/
import Derived.Test.YtblnkbfbhlhgkaaGreatDoorKHAW
set_option linter.unusedVariables false
set_option linter.unusedSimpArgs false
namespace Go.Proofs.YtblnkbfbhlhgkaaGreatDoor
section
open Go.RowKit
def rfC (br bm:Nat):Array Value:=#[.func (.func 250) #[] #[.pointer (some ⟨bm,0,none⟩),.pointer (some ⟨br,0,none⟩)],.func (.func 251) #[] #[.pointer (some ⟨br,0,none⟩),.pointer (some ⟨bm,0,none⟩)],.func (.func 252) #[] #[.pointer (some ⟨br,0,none⟩),.pointer (some ⟨bm,0,none⟩)],.func (.func 254) #[] #[.pointer (some ⟨br,0,none⟩),.pointer (some ⟨bm,0,none⟩)],.func (.func 255) #[] #[.pointer (some ⟨br,0,none⟩),.pointer (some ⟨bm,0,none⟩)],.func (.func 257) #[] #[.pointer (some ⟨br,0,none⟩),.pointer (some ⟨bm,0,none⟩)]]
theorem rf_one (br bm:Nat):(rfC br bm).all (·.oneCell')=true:=by simp [rfC,Value.oneCell']
theorem zv1 {fn:Func} {R:Ending→World→Prop} {a:Act} {w:World} {p:Tmp} {g br bm:Nat} {t:TypeId} (hf:fn.results=#[.cell p 253])
  (hp:a.tmps.getD p undef = .pointer (some ⟨g,0,none⟩)) (h:Blk w g t (rfC br bm)) (hd:a.defers=[]) (hR:R (.returned (.agg (rfC br bm))) w) :
  bodyPost Tryz.prog fn R .ret a w:=by
 refine bodyPost_ret (v:=.agg (rfC br bm)) ?_ hd hR
 have hp':a.tmps[p]?.getD undef = .pointer (some ⟨g,0,none⟩):=by simpa using hp
 have hl:=run_loadVar_row (P:=Tryz.prog) w g t 253 (rfC br bm) (0,0) _ h Tryz.underlying253 rfl (by rw [show (rfC br bm).size=6 from rfl];kernel_rfl)
 simp [results,hf,hp',asAddr,hl]
theorem ze0 {ops:Array Oper} {rest:List Oper} {o:Oper} {a:Act} {w:World} {Q:Exit→Act→World→Prop} (hgd:o.guard=none) (x y:Operand) (ho:o.op = .store 253 x y)
  (g:Nat) (hx:a.eval x = .pointer (some ⟨g,0,none⟩)) {br bm:Nat} (hy:a.eval y = .agg (rfC br bm)) {t:TypeId} {old:Array Value} (h:Blk w g t old) (hold:old.size=6)
  (hk:∀ w',Blk w' g t (rfC br bm)→w.grownBy w' (some g)→wpList Tryz.prog ops Q rest (a.put o.dst undef) w'):wpList Tryz.prog ops Q (o::rest) a w :=
 wpList_store_row hgd 253 x y ho g (rfC br bm) hx hy t old h (by rw [show (rfC br bm).size=6 from rfl];kernel_rfl) (by rw [show (rfC br bm).size=6 from rfl,hold]) (rf_one br bm) (hk _ (h.setRow _) (zaL _ _ _))
theorem zkB (w:World) (gr gm:Nat):Calls Tryz.prog 237 #[.pointer (some ⟨gr,0,none⟩),.pointer (some ⟨gm,0,none⟩)] w fun e w' =>
  ∃ br bm,e = .returned (.agg (rfC br bm))∧Ptrs w' gr gm br bm∧w.heap.size≤br∧br<bm∧Below w.heap.size w w':=by
 have HR:=hide (((Blk.new w 126 #[.pointer (some ⟨gr,0,none⟩)]).alloc (.cells #[.pointer (some ⟨gm,0,none⟩)] 255)).alloc (.cells #[.nilFunc,.nilFunc,.nilFunc,.nilFunc,.nilFunc,.nilFunc] 253))
 have HM:=hide ((zdu w (.cells #[.pointer (some ⟨gr,0,none⟩)] 126) 255 #[.pointer (some ⟨gm,0,none⟩)]).alloc (.cells #[.nilFunc,.nilFunc,.nilFunc,.nilFunc,.nilFunc,.nilFunc] 253))
 have HN:Hid (Blk (((w.alloc (.cells #[.pointer (some ⟨gr,0,none⟩)] 126)).alloc (.cells #[.pointer (some ⟨gm,0,none⟩)] 255)).alloc (.cells #[.nilFunc,.nilFunc,.nilFunc,.nilFunc,.nilFunc,.nilFunc] 253)) (w.heap.size+2) 253 #[.nilFunc,.nilFunc,.nilFunc,.nilFunc,.nilFunc,.nilFunc]):=hide (by
  have:=Blk.new ((w.alloc (.cells #[.pointer (some ⟨gr,0,none⟩)] 126)).alloc (.cells #[.pointer (some ⟨gm,0,none⟩)] 255)) 253 #[.nilFunc,.nilFunc,.nilFunc,.nilFunc,.nilFunc,.nilFunc]
  simpa using this)
 have W0:=hide ((((Below.refl w.heap.size w).alloc (Nat.le_refl _) (.cells #[.pointer (some ⟨gr,0,none⟩)] 126)).alloc (by simp) (.cells #[.pointer (some ⟨gm,0,none⟩)] 255)).alloc (by simp;omega) (.cells #[.nilFunc,.nilFunc,.nilFunc,.nilFunc,.nilFunc,.nilFunc] 253))
 go_enter Tryz.func237,Tryz.ntmps237
 go_wp2_with (refine ze0 rfl (.tmp 4) (.tmp 11) rfl (w.heap.size+2) rfl (br:=w.heap.size) (bm:=w.heap.size+1) rfl HN.out rfl ?_;intro w2 hb2 hg2;have HB2:=hide hb2;have HG2:=hide hg2;clear hb2 hg2;refine Hid.out ?_)
 refine hide ?_
 go_wp2
 refine zv1 (p:=4) (g:=w.heap.size+2) (t:=253) rfl rfl HB2.out rfl ⟨_,_,rfl,⟨HR.out.grown HG2.out (by simp),HM.out.grown HG2.out (by simp)⟩,Nat.le_refl _,Nat.lt_succ_self _,?_⟩
 exact W0.out.grown HG2.out (by simp;omega) (by simp)
theorem zkh:mroC (zdh 0)=zMro:=rfl
theorem zog {fn:Func} {R:Ending→World→Prop} {a:Act} {w:World} {p:Tmp} {g:Nat} {t:TypeId} {m:Mr} (hf:fn.results=#[.cell p 97])
  (hp:a.tmps.getD p undef = .pointer (some ⟨g,0,none⟩)) (h:Blk w g t (mroC m)) (hm:m.W) (hd:a.defers=[]) (hR:R (.returned (.agg (mroC m))) w) :
  bodyPost Tryz.prog fn R .ret a w:=by
 refine bodyPost_ret (v:=.agg (mroC m)) ?_ hd hR
 have hp':a.tmps[p]?.getD undef = .pointer (some ⟨g,0,none⟩):=by simpa using hp
 simp [results,hf,hp',asAddr,zh9 h hm]
theorem zj2 {k:Int} {b:List UInt8} {j:Nat} (h:(zaT k).getD j false=false):rdK k b (j+1)=rdK k b j:=by rw [rdK,h];simp
theorem zg8 {k:Int} {b:List UInt8} {j:Nat} (h:(zaT k).getD j false=true):rdK k b (j+1)=rdP (rdK k b j).1 (rdK k b j).2 j:=by rw [rdK,h];simp
theorem zp9 (k:Int):Tryz.prog.built 97 [(0,.int .i64 k)]=some (mroC (zdh k)):=by kernel_rfl
theorem zgX {ops:Array Oper} {rest:List Oper} {o:Oper} {a:Act} {w:World} {Q:Exit→Act→World→Prop} (hgd:o.guard=none) (x:Operand) (ho:o.op = .build 97 #[(0,x)]) (k:Int) (hx:a.eval x = .int .i64 k)
  (hk:wpList Tryz.prog ops Q rest (a.put o.dst (.agg (mroC (zdh k)))) w):wpList Tryz.prog ops Q (o::rest) a w:=by
 refine wpList_plain hgd fun K hK'=>?_
 unfold Oper.wp execOp
 simp only [ho,List.map_toArray,List.map_cons,List.map_nil,hx,Sem.run_bind,run_build w _ _ _ (zp9 k),Result.andThen_ok,Sem.run_pure]
 exact hK' _ _ hk
theorem zbX (k:Int):(zdh k).W:=⟨rfl,rfl,rfl,rfl⟩
set_option maxRecDepth 20000 in
set_option maxHeartbeats 4000000 in
theorem zf7 (w:World) (lo hi:Nat) (A:Option Addr) (n c:Nat) (b:List UInt8) (h:At w lo hi A n b) (hh:hi≤w.heap.size) (hn:n≤140737488355328) (hN:zaO w) :
  Calls Tryz.prog 216 #[.slice A n c] w fun e w'=>e = .returned (.agg (mroC (zbT b)))∧Below w.heap.size w w':=by
 have HA:=hide (h.alloc hh (.cells zMro 97))
 have HRES:Hid (Blk (w.alloc (.cells zMro 97)) w.heap.size 97 (mroC (zdh 0))):=hide (by rw [zkh];exact Blk.new w _ _)
 have W0:=hide ((Below.refl w.heap.size w).alloc (Nat.le_refl _) (.cells zMro 97))
 have hs0:(w.alloc (.cells zMro 97)).heap.size=w.heap.size+1:=by simp
 have HN:=hide hN
 clear h hN
 go_enter Tryz.func216,Tryz.ntmps216
 go_wp2_with fail
 generalize hw0:w.alloc (.cells zMro 97)=w0 at HA HRES W0 hs0 ⊢
 clear hw0
 refine (zb1 w0 lo hi A n c b HA.out (by omega) hn).mono ?_
 rintro e w1 ⟨gr,rfl,hgr,hr1,hb1⟩
 generalize hB:w0.heap.size=B at hgr hr1 hs0
 have R1:=hide hr1
 have RES1:=hide (HRES.out.over hb1)
 have W1:=hide (zaa W0.out hb1 (Nat.le_refl _))
 have hgr1:w.heap.size<gr:=by omega
 have hlt1:=hr1.lt
 clear hr1 hb1 hB HA HRES W0
 go_wp2_with fail
 refine (zbP _ B gr b false R1.out 1 (by decide)).mono ?_
 rintro e w2 ⟨rfl,hr2,hg2⟩
 have R2:=hide hr2
 have RES2:=hide (RES1.out.grown hg2 (by intro e;injection e with e;omega))
 have W2:=hide (W1.out.grown hg2 W1.out.size (fun g hg=>by injection hg with hg;omega))
 have hs2:=hg2.size
 clear hr2 hg2
 generalize hk:((zau b 1:Nat):Int)=k
 have HK:=hide hk
 clear hk
 have NEW:=hide (Blk.new w2 97 zMro)
 go_wp2_with (first
  | (with_reducible refine zgX rfl (.tmp 11) rfl k rfl ?_)
  | (refine zap rfl (.tmp 4) (.tmp 12) rfl w2.heap.size rfl (m:=zdh k) rfl (zbX k) NEW.out rfl ?_;intro w3 hb3 hg3;have M3:=hide hb3;have W23:Hid (Below w2.heap.size w2 w3):=hide (((Below.refl _ _).alloc (Nat.le_refl _) _).grown hg3 (by simp) (by simp));clear hb3 hg3;refine Hid.out ?_))
 refine hide ?_
 clear NEW
 have R3:=hide (R2.out.below W23.out R2.out.lt)
 have RES3:=hide (RES2.out.over W23.out)
 have W3:=hide (zaa W2.out W23.out (Nat.le_refl _))
 have hm3:=M3.out.lt
 have hs23:=W23.out.size
 go_wp2_with fail
 refine (zbP _ B gr _ _ R3.out 1 (by decide)).mono ?_
 rintro e w4 ⟨rfl,hr4,hg4⟩
 have R4:=hide hr4
 have RES4:=hide (RES3.out.grown hg4 (by intro e;injection e with e;omega))
 have M4:=hide (M3.out.grown hg4 (by intro e;injection e with e;omega))
 have W4:=hide (W3.out.grown hg4 W3.out.size (fun g hg=>by injection hg with hg;omega))
 have hs4:=hg4.size
 clear hr4 hg4
 generalize hb2:zai (zai b 1) 1=b2 at R4
 have HB2:=hide hb2
 clear hb2
 go_wp2_with fail
 refine (zkB w4 gr w2.heap.size).mono ?_
 rintro e w5 ⟨br,bm,rfl,hp5,hbr,hbm,hb5⟩
 have R5:=hide (R4.out.below hb5 R4.out.lt)
 have RES5:=hide (RES4.out.over hb5)
 have M5:=hide (M4.out.over hb5)
 have W5:=hide (zaa W4.out hb5 (Nat.le_refl _))
 have P5:=hide hp5
 have hs5:=hb5.size
 have hbm5:bm<w5.heap.size:=hp5.2.lt
 clear hp5 hb5
 have NEW:=hide (Blk.new w5 253 #[.nilFunc,.nilFunc,.nilFunc,.nilFunc,.nilFunc,.nilFunc])
 go_wp2_with (refine ze0 rfl (.tmp 5) (.tmp 16) rfl w5.heap.size rfl (br:=br) (bm:=bm) rfl NEW.out rfl ?_;intro w6 hb6 hg6;have F6:=hide hb6;have W56:Hid (Below w5.heap.size w5 w6):=hide (((Below.refl _ _).alloc (Nat.le_refl _) _).grown hg6 (by simp) (by simp));clear hb6 hg6;refine Hid.out ?_)
 refine hide ?_
 clear NEW
 have RES6:=hide (RES5.out.over W56.out)
 have W6:=hide (zaa W5.out W56.out (Nat.le_refl _))
 have S6:Hid (RdSt w6 B gr w2.heap.size br bm (zdh k) b2):=hide ⟨⟨_,R5.out.below W56.out R5.out.lt⟩,M5.out.over W56.out,P5.out.below W56.out,zbX k,hgr,by omega,by omega,hbm⟩
 have k0:=(S6.out.m.cell 0).trans ze8
 have hf6:=F6.out.lt
 have N6:=hide (HN.out.below W6.out)
 go_wp2_with fail
 refine (zb6 w6 k N6.out).mono ?_
 rintro e w7 ⟨rfl,hb7⟩
 have S7:=hide (S6.out.below hb7)
 have RES7:=hide (RES6.out.over hb7)
 have F7:=hide (F6.out.over hb7)
 have W7:=hide (zaa W6.out hb7 (Nat.le_refl _))
 have hs7:=hb7.size
 clear hb7 k0
 have hgm:w2.heap.size<w6.heap.size:=by omega
 generalize hgmv:w2.heap.size=gm at *
 generalize hgav:w5.heap.size=ga at *
 clear hgmv hgav
 go_wp2_with fail
 go_loopw [20] (fun i wr=>∃ j:Nat,j≤6∧i = .int .i64 j∧RdSt wr B gr gm br bm (rdK k b2 j).1 (rdK k b2 j).2∧Blk wr w.heap.size 97 (mroC (zdh 0))∧Blk wr ga 253 (rfC br bm)∧Below w.heap.size w wr) (fun i _=>6-(intOf i).toNat)
 case atStart=>exact ⟨0,by omega,rfl,S7.out,RES7.out,F7.out,W7.out⟩
 case round =>
  obtain ⟨j,hj,rfl,hS,hres,hf,hw⟩:=hrel
  have SR:=hide hS
  have RESR:=hide hres
  have FR:=hide hf
  have WR:=hide hw
  have hsr:=hw.size
  clear hS hres hf hw
  rcases (show j=0∨j=1∨j=2∨j=3∨j=4∨j=5∨j=6 by omega) with rfl | rfl | rfl | rfl | rfl | rfl | rfl
  ·cases hp:(zaT k).getD 0 false
   ·have HP:=hide hp
    clear hp
    go_wp2_with (with_reducible refine zak rfl (.tmp 19) (.tmp 20) rfl k 0 (by omega) rfl rfl _ HP.out ?_)
    go_roundw
    case rel=>exact ⟨1,by omega,rfl,by rw [zj2 HP.out];exact SR.out,RESR.out,FR.out,WR.out⟩
    case measure=>simp [intOf]
   ·have HP:=hide hp
    have hfc:wr.cell? ⟨ga,0,none⟩=some (.func (.func 250) #[] #[.pointer (some ⟨bm,0,none⟩),.pointer (some ⟨br,0,none⟩)]):=(FR.out.cell 0).trans rfl
    clear hp
    go_wp2_with (with_reducible refine zak rfl (.tmp 19) (.tmp 20) rfl k 0 (by omega) rfl rfl _ HP.out ?_)
    refine (zwb wr B gr gm br bm _ _ SR.out rfl).mono ?_
    rintro e w8 ⟨rfl,hS8,hT8⟩
    rw [← zg8 HP.out] at hS8
    have S8:=hide hS8
    have RES8:=hide (hT8.blk RESR.out (by omega))
    have F8:=hide (hT8.blk FR.out (by omega))
    have W8:=hide (WR.out.trans (hT8.to_below hsr (fun i hi=>by omega)))
    clear hS8 hT8 hfc
    go_wp2
    go_roundw
    case rel=>exact ⟨1,by omega,rfl,S8.out,RES8.out,F8.out,W8.out⟩
    case measure=>simp [intOf]
  ·cases hp:(zaT k).getD 1 false
   ·have HP:=hide hp
    clear hp
    go_wp2_with (with_reducible refine zak rfl (.tmp 19) (.tmp 20) rfl k 1 (by omega) rfl rfl _ HP.out ?_)
    go_roundw
    case rel=>exact ⟨2,by omega,rfl,by rw [zj2 HP.out];exact SR.out,RESR.out,FR.out,WR.out⟩
    case measure=>simp [intOf]
   ·have HP:=hide hp
    have hfc:wr.cell? ⟨ga,1,none⟩=some (.func (.func 251) #[] #[.pointer (some ⟨br,0,none⟩),.pointer (some ⟨bm,0,none⟩)]):=(FR.out.cell 1).trans rfl
    clear hp
    go_wp2_with (with_reducible refine zak rfl (.tmp 19) (.tmp 20) rfl k 1 (by omega) rfl rfl _ HP.out ?_)
    refine (zwa wr B gr gm br bm _ _ SR.out).mono ?_
    rintro e w8 ⟨rfl,hS8,hT8⟩
    rw [← zg8 HP.out] at hS8
    have S8:=hide hS8
    have RES8:=hide (hT8.blk RESR.out (by omega))
    have F8:=hide (hT8.blk FR.out (by omega))
    have W8:=hide (WR.out.trans (hT8.to_below hsr (fun i hi=>by omega)))
    clear hS8 hT8 hfc
    go_wp2
    go_roundw
    case rel=>exact ⟨2,by omega,rfl,S8.out,RES8.out,F8.out,W8.out⟩
    case measure=>simp [intOf]
  ·cases hp:(zaT k).getD 2 false
   ·have HP:=hide hp
    clear hp
    go_wp2_with (with_reducible refine zak rfl (.tmp 19) (.tmp 20) rfl k 2 (by omega) rfl rfl _ HP.out ?_)
    go_roundw
    case rel=>exact ⟨3,by omega,rfl,by rw [zj2 HP.out];exact SR.out,RESR.out,FR.out,WR.out⟩
    case measure=>simp [intOf]
   ·have HP:=hide hp
    have hfc:wr.cell? ⟨ga,2,none⟩=some (.func (.func 252) #[] #[.pointer (some ⟨br,0,none⟩),.pointer (some ⟨bm,0,none⟩)]):=(FR.out.cell 2).trans rfl
    clear hp
    go_wp2_with (with_reducible refine zak rfl (.tmp 19) (.tmp 20) rfl k 2 (by omega) rfl rfl _ HP.out ?_)
    refine (zv9 wr B gr gm br bm _ _ SR.out).mono ?_
    rintro e w8 ⟨rfl,hS8,hT8⟩
    rw [← zg8 HP.out] at hS8
    have S8:=hide hS8
    have RES8:=hide (hT8.blk RESR.out (by omega))
    have F8:=hide (hT8.blk FR.out (by omega))
    have W8:=hide (WR.out.trans (hT8.to_below hsr (fun i hi=>by omega)))
    clear hS8 hT8 hfc
    go_wp2
    go_roundw
    case rel=>exact ⟨3,by omega,rfl,S8.out,RES8.out,F8.out,W8.out⟩
    case measure=>simp [intOf]
  ·cases hp:(zaT k).getD 3 false
   ·have HP:=hide hp
    clear hp
    go_wp2_with (with_reducible refine zak rfl (.tmp 19) (.tmp 20) rfl k 3 (by omega) rfl rfl _ HP.out ?_)
    go_roundw
    case rel=>exact ⟨4,by omega,rfl,by rw [zj2 HP.out];exact SR.out,RESR.out,FR.out,WR.out⟩
    case measure=>simp [intOf]
   ·have HP:=hide hp
    have hfc:wr.cell? ⟨ga,3,none⟩=some (.func (.func 254) #[] #[.pointer (some ⟨br,0,none⟩),.pointer (some ⟨bm,0,none⟩)]):=(FR.out.cell 3).trans rfl
    clear hp
    go_wp2_with (with_reducible refine zak rfl (.tmp 19) (.tmp 20) rfl k 3 (by omega) rfl rfl _ HP.out ?_)
    refine (zv8 wr B gr gm br bm _ _ SR.out).mono ?_
    rintro e w8 ⟨rfl,hS8,hT8⟩
    rw [← zg8 HP.out] at hS8
    have S8:=hide hS8
    have RES8:=hide (hT8.blk RESR.out (by omega))
    have F8:=hide (hT8.blk FR.out (by omega))
    have W8:=hide (WR.out.trans (hT8.to_below hsr (fun i hi=>by omega)))
    clear hS8 hT8 hfc
    go_wp2
    go_roundw
    case rel=>exact ⟨4,by omega,rfl,S8.out,RES8.out,F8.out,W8.out⟩
    case measure=>simp [intOf]
  ·cases hp:(zaT k).getD 4 false
   ·have HP:=hide hp
    clear hp
    go_wp2_with (with_reducible refine zak rfl (.tmp 19) (.tmp 20) rfl k 4 (by omega) rfl rfl _ HP.out ?_)
    go_roundw
    case rel=>exact ⟨5,by omega,rfl,by rw [zj2 HP.out];exact SR.out,RESR.out,FR.out,WR.out⟩
    case measure=>simp [intOf]
   ·have HP:=hide hp
    have hfc:wr.cell? ⟨ga,4,none⟩=some (.func (.func 255) #[] #[.pointer (some ⟨br,0,none⟩),.pointer (some ⟨bm,0,none⟩)]):=(FR.out.cell 4).trans rfl
    clear hp
    go_wp2_with (with_reducible refine zak rfl (.tmp 19) (.tmp 20) rfl k 4 (by omega) rfl rfl _ HP.out ?_)
    refine (zv7 wr B gr gm br bm _ _ SR.out).mono ?_
    rintro e w8 ⟨rfl,hS8,hT8⟩
    rw [← zg8 HP.out] at hS8
    have S8:=hide hS8
    have RES8:=hide (hT8.blk RESR.out (by omega))
    have F8:=hide (hT8.blk FR.out (by omega))
    have W8:=hide (WR.out.trans (hT8.to_below hsr (fun i hi=>by omega)))
    clear hS8 hT8 hfc
    go_wp2
    go_roundw
    case rel=>exact ⟨5,by omega,rfl,S8.out,RES8.out,F8.out,W8.out⟩
    case measure=>simp [intOf]
  ·cases hp:(zaT k).getD 5 false
   ·have HP:=hide hp
    clear hp
    go_wp2_with (with_reducible refine zak rfl (.tmp 19) (.tmp 20) rfl k 5 (by omega) rfl rfl _ HP.out ?_)
    go_roundw
    case rel=>exact ⟨6,by omega,rfl,by rw [zj2 HP.out];exact SR.out,RESR.out,FR.out,WR.out⟩
    case measure=>simp [intOf]
   ·have HP:=hide hp
    have hfc:wr.cell? ⟨ga,5,none⟩=some (.func (.func 257) #[] #[.pointer (some ⟨br,0,none⟩),.pointer (some ⟨bm,0,none⟩)]):=(FR.out.cell 5).trans rfl
    clear hp
    go_wp2_with (with_reducible refine zak rfl (.tmp 19) (.tmp 20) rfl k 5 (by omega) rfl rfl _ HP.out ?_)
    refine (zv6 wr B gr gm br bm _ _ SR.out).mono ?_
    rintro e w8 ⟨rfl,hS8,hT8⟩
    rw [← zg8 HP.out] at hS8
    have S8:=hide hS8
    have RES8:=hide (hT8.blk RESR.out (by omega))
    have F8:=hide (hT8.blk FR.out (by omega))
    have W8:=hide (WR.out.trans (hT8.to_below hsr (fun i hi=>by omega)))
    clear hS8 hT8 hfc
    go_wp2
    go_roundw
    case rel=>exact ⟨6,by omega,rfl,S8.out,RES8.out,F8.out,W8.out⟩
    case measure=>simp [intOf]
  ·have HE:Hid (zbT b=(rdK k b2 6).1):=hide (by unfold zbT;rw [HB2.out,HK.out])
   go_wp2_with (first
    | (with_reducible refine zaC rfl (.tmp 4) rfl gm rfl SR.out.m SR.out.W ?_)
    | (refine zap rfl (.tmp 2) (.tmp 30) rfl w.heap.size rfl (m:=(rdK k b2 6).1) rfl SR.out.W RESR.out (zbk (zbX 0)) ?_;intro w9 hb9 hg9;have M9:=hide hb9;have HG9:=hide hg9;clear hb9 hg9;refine Hid.out ?_))
   refine hide ?_
   go_wp2
   refine zog (p:=2) rfl rfl M9.out SR.out.W rfl ?_
   rw [HE.out]
   exact ⟨rfl,WR.out.grown HG9.out hsr (by simp)⟩
end
section
set_option maxRecDepth 20000
open Go.RowKit
theorem zfA {m:Mr} (w:m.W) {x:World} {g:Nat} {t:TypeId} (h:Blk x g t (mroC m)):x.cell? ⟨g,10,none⟩=some (.int .i64 m.ss):=zwo w h 0 _ rfl
theorem zfB {m:Mr} (w:m.W) {x:World} {g:Nat} {t:TypeId} (h:Blk x g t (mroC m)):x.cell? ⟨g,27,none⟩=some (.int .i64 m.gs):=zwp w h 0 _ rfl
theorem zj7 {m:Mr} (w:m.W) {x:World} {g:Nat} {t:TypeId} (h:Blk x g t (mroC m)):x.cell? ⟨g,44,none⟩=some (.int .i64 m.fs):=mro_f w h 0 _ rfl
theorem zb7 {m:Mr} {x:World} {g:Nat} {t:TypeId} (h:Blk x g t (mroC m)):x.cell? ⟨g,0,none⟩=some (.int .i64 m.k):=(h.cell 0).trans ze8
set_option maxHeartbeats 1000000 in
theorem zgD (w:World) (m:Mr) (hm:m.W) (hkey:m.key.length≤140737488351232) (hN:zaO w) :
  Calls Tryz.prog 235 #[.agg (mroC m)] w fun e w'=>e = .returned (.agg (mroC (zbT m.key)))∧Below w.heap.size w w':=by
 have HW:=hide (zds m.key).w
 have k61:=zhg hm
 have RES:Hid (Blk ((w.alloc (.cells (mroC m) 97)).alloc (.cells zMro 97)) (w.heap.size+1) 97 (mroC (zdh 0))):=hide (by rw [zkh];exact zdu w _ _ _)
 have B1:=(Below.refl w.heap.size w).alloc (Nat.le_refl _) (.cells (mroC m) 97)
 have W0:=hide (B1.alloc B1.size (.cells zMro 97))
 clear B1
 have HN:=hide (hN.below W0.out)
 have HSZ:Hid (((w.alloc (.cells (mroC m) 97)).alloc (.cells zMro 97)).heap.size=w.heap.size+2):=hide (by rw [World.size_alloc,World.size_alloc])
 clear hm hN
 go_enter Tryz.func235,Tryz.ntmps235
 go_wp2_with ((with_reducible refine zeQ rfl (.tmp 4) rfl m.key rfl ?_);intro c w1 hc ha hb;rw [HSZ.out] at ha;rw [HSZ.out];have HA:=hide ha;have RES1:=hide (RES.out.over hb);have W1:=hide (zaa W0.out hb (Nat.le_refl _));have N1:=hide (HN.out.below hb);have hs1:=hb.size;clear ha hb RES W0 HN;refine Hid.out ?_)
 refine hide ?_
 go_wp2_with fail
 refine (zf7 w1 _ _ _ _ _ m.key HA.out (Nat.le_refl _) (by omega) N1.out).mono ?_
 rintro e w2 ⟨rfl,hb2⟩
 have RES2:=hide (RES1.out.over hb2)
 have W2:=hide (zaa W1.out hb2 (Nat.le_refl _))
 clear hb2
 go_wp2_with (refine zap rfl (.tmp 2) (.tmp 6) rfl (w.heap.size+1) rfl (m:=zbT m.key) rfl HW.out RES2.out (zbk (zbX 0)) ?_;intro w9 hb9 hg9;have M9:=hide hb9;have HG9:=hide hg9;clear hb9 hg9;refine Hid.out ?_)
 refine hide ?_
 go_wp2
 refine zog (p:=2) rfl rfl M9.out HW.out rfl ?_
 exact ⟨rfl,W2.out.grown HG9.out W2.out.size (by simp)⟩
set_option maxHeartbeats 2000000 in
theorem zdG (w:World) (m:Mr) (hm:m.W) (hN:zaO w) :
  Calls Tryz.prog 213 #[.agg (mroC m)] w fun e w'=>e = .returned (.bool (zi1 m))∧Below w.heap.size w w':=by
 have HB:=hide (Blk.new w 97 (mroC m))
 have HM:=hide hm
 have W0:=hide ((Below.refl w.heap.size w).alloc (Nat.le_refl _) (.cells (mroC m) 97))
 have HN:=hide (hN.below W0.out)
 have k10:(mroC m)[10]?=some (.int .i64 m.ss):=(HB.out.cell 10).symm.trans (zfA hm HB.out)
 have k27:(mroC m)[27]?=some (.int .i64 m.gs):=(HB.out.cell 27).symm.trans (zfB hm HB.out)
 have k44:(mroC m)[44]?=some (.int .i64 m.fs):=(HB.out.cell 44).symm.trans (zj7 hm HB.out)
 have k0:(mroC m)[0]?=some (.int .i64 m.k):=ze8
 have HD:Hid (Below w.heap.size w (w.alloc (.cells (mroC m) 97)).drew):=hide (zan W0.out)
 obtain ⟨r,hr⟩:∃ r,r=zi1 m:=⟨_,rfl⟩
 have hf:=hr
 unfold zi1 at hf
 rw [← hr]
 clear hm hN hr
 have HF:=hide hf
 clear hf
 go_enter Tryz.func213,Tryz.ntmps213
 go_wp2_with fail
 refine wp_region_held_drew (S:=fun x=>Blk x w.heap.size 97 (mroC m)) (by kernel_rfl) HB.out.drew (fun hHeld=>?_)
 refine rgT 0 ?_
 refine rgT 1 ?_
 refine rgK 2 (fun w' hSw=>(hSw.cell 10).trans k10) ?_
 refine rgT 3 ?_
 refine rgT 4 ?_
 refine rgK 5 (fun w' hSw=>(hSw.cell 27).trans k27) ?_
 refine rgT 6 ?_
 refine rgT 7 ?_
 refine wpAnyH_done (by kernel_rfl) ?_ _
 have HB1:=hide hHeld
 have HN1:Hid (zaO (w.alloc (.cells (mroC m) 97)).drew):=hide HN.out
 generalize (w.alloc (.cells (mroC m) 97)).drew=w1 at hHeld HD HB1 HN1 ⊢
 clear hHeld HN HB W0
 have k10:=zfA HM.out HB1.out
 have k27:=zfB HM.out HB1.out
 have ha10:Hid (w1.rangeAt w.heap.size 10 (.int .i64 m.ss::bvs m.sb)):=hide (zwo HM.out HB1.out)
 go_wp2_with (with_reducible refine zaY rfl (.tmp 11) rfl w.heap.size 10 rfl ha10.out HM.out.sb ?_)
 refine (zbU w1 m.ss m.sb HM.out.sb).mono ?_
 rintro e w2 ⟨rfl,hb2⟩
 have B2:=hide (HB1.out.over hb2)
 have N2:=hide (HN1.out.below hb2)
 have W2:=hide (HD.out.trans (hb2.mono HD.out.size))
 have k0':=zb7 B2.out
 have ha27:Hid (w2.rangeAt w.heap.size 27 (.int .i64 m.gs::bvs m.gb)):=hide (zwp HM.out B2.out)
 clear hb2 k10 k27 ha10
 cases c1:zcv m.ss m.sb
 ·rw [c1] at HF
  have hlast:∀ {w3:World},Blk w3 w.heap.size 97 (mroC m)→zaO w3→Below w.heap.size w w3→True:=fun _ _ _=>trivial
  by_cases hg:0<m.gs
  ·have hgd:decide (0<m.gs)=true:=decide_eq_true hg
   go_wp2_with ((with_reducible refine zaY ?_ (.tmp 18) rfl w.heap.size 27 rfl ha27.out HM.out.gb ?_);· rfl)
   refine (zbU w2 m.gs m.gb HM.out.gb).mono ?_
   rintro e w3 ⟨rfl,hb3⟩
   have B3:=hide (B2.out.over hb3)
   have N3:=hide (N2.out.below hb3)
   have W3:=hide (W2.out.trans (hb3.mono W2.out.size))
   have k03:=zb7 B3.out
   clear hb3 k0'
   cases c2:zcv m.gs m.gb
   ·obtain rfl:r=false:=by rw [HF.out,c2,hgd];rfl
    go_wp2
    go_ret
    exact ⟨rfl,W3.out⟩
   ·have hgz:¬ m.gs=0:=by omega
    have hgzb:(m.gs==0)=false:=beq_eq_false_iff_ne.2 hgz
    by_cases hs:m.ss=0
    ·have hsb:(m.ss==0)=true:=beq_iff_eq.2 hs
     by_cases hk:m.k=3
     ·obtain rfl:r=true:=by rw [HF.out,c2,hgd];simp [hs,hk]
      rw [hk] at k03
      go_wp2
      go_ret
      exact ⟨rfl,W3.out⟩
     ·obtain rfl:r=!nAd m.k:=by rw [HF.out,c2,hgd];simp [hs,hk]
      have hkb:(m.k==3)=false:=beq_eq_false_iff_ne.2 hk
      clear hs
      go_wp2_with fail
      refine (zb6 w3 m.k N3.out).mono ?_
      rintro e w4 ⟨rfl,hb4⟩
      have W4:=hide (W3.out.trans (hb4.mono W3.out.size))
      clear hb4
      go_wp2_with ((with_reducible refine zak ?_ (.tmp 36) (.const (.int .i64 3)) rfl m.k 3 (by decide) rfl rfl (nAd m.k) rfl ?_);· rfl)
      go_ret
      exact ⟨rfl,W4.out⟩
    ·obtain rfl:r=decide (m.ss=m.gs):=by rw [HF.out,c2,hgd];simp [hs,hgz]
     have hsb:(m.ss==0)=false:=beq_eq_false_iff_ne.2 hs
     go_wp2
     go_ret
     exact ⟨rfl,W3.out⟩
  ·have hgd:decide (0<m.gs)=false:=decide_eq_false hg
   by_cases hs:m.ss=0∨m.gs=0
   ·by_cases hk:m.k=3
    ·obtain rfl:r=true:=by rw [HF.out,hgd];simp [hs,hk]
     rw [hk] at k0'
     by_cases hs0:m.ss=0
     ·have hsb:(m.ss==0)=true:=beq_iff_eq.2 hs0
      clear hs
      go_wp2
      go_ret
      exact ⟨rfl,W2.out⟩
     ·have hg0:m.gs=0:=hs.resolve_left hs0
      have hsb:(m.ss==0)=false:=beq_eq_false_iff_ne.2 hs0
      have hgb:(m.gs==0)=true:=beq_iff_eq.2 hg0
      clear hs
      go_wp2
      go_ret
      exact ⟨rfl,W2.out⟩
    ·obtain rfl:r=!nAd m.k:=by rw [HF.out,hgd];simp [hs,hk]
     have hkb:(m.k==3)=false:=beq_eq_false_iff_ne.2 hk
     by_cases hs0:m.ss=0
     ·have hsb:(m.ss==0)=true:=beq_iff_eq.2 hs0
      clear hs
      go_wp2_with fail
      refine (zb6 w2 m.k N2.out).mono ?_
      rintro e w4 ⟨rfl,hb4⟩
      have W4:=hide (W2.out.trans (hb4.mono W2.out.size))
      clear hb4
      go_wp2_with ((with_reducible refine zak ?_ (.tmp 36) (.const (.int .i64 3)) rfl m.k 3 (by decide) rfl rfl (nAd m.k) rfl ?_);· rfl)
      go_ret
      exact ⟨rfl,W4.out⟩
     ·have hg0:m.gs=0:=hs.resolve_left hs0
      have hsb:(m.ss==0)=false:=beq_eq_false_iff_ne.2 hs0
      have hgb:(m.gs==0)=true:=beq_iff_eq.2 hg0
      clear hs
      go_wp2_with fail
      refine (zb6 w2 m.k N2.out).mono ?_
      rintro e w4 ⟨rfl,hb4⟩
      have W4:=hide (W2.out.trans (hb4.mono W2.out.size))
      clear hb4
      go_wp2_with ((with_reducible refine zak ?_ (.tmp 36) (.const (.int .i64 3)) rfl m.k 3 (by decide) rfl rfl (nAd m.k) rfl ?_);· rfl)
      go_ret
      exact ⟨rfl,W4.out⟩
   ·have hs0:¬ m.ss=0:=fun e=>hs (.inl e)
    have hg0:¬ m.gs=0:=fun e=>hs (.inr e)
    obtain rfl:r=decide (m.ss=m.gs):=by rw [HF.out,hgd];simp [hs0,hg0]
    have hsb:(m.ss==0)=false:=beq_eq_false_iff_ne.2 hs0
    have hgb:(m.gs==0)=false:=beq_eq_false_iff_ne.2 hg0
    clear hs
    go_wp2
    go_ret
    exact ⟨rfl,W2.out⟩
 ·obtain rfl:r=false:=by rw [HF.out,c1];rfl
  go_wp2
  go_ret
  exact ⟨rfl,W2.out⟩
end
end Go.Proofs.YtblnkbfbhlhgkaaGreatDoor
