/-
  What tells routes, read: Empty, tables of package update, in whatever memory. The one condition beyond sizes that fit memory: the program's table holds what its text lays.
  How an update is read: split, reset, Parse of package update, in whatever memory, given what attr.Read and subOf do there. The one condition beyond sizes that fit memory: the program's table holds what its text lays.
  Few of the statements of layer 10, and their sameness of two notes, in whatever memory. No condition.
  How an update that comes in is opened. No condition.
  Steps of a region that draws its order, the first one that is left each time; cells told by one fact of the region's condition. Nothing here speaks of the program. No condition.
-/
import Derived.Maps.OwnOps
import Derived.Test.YthgainmcnjldaaaGreatDoorKLAO
import Derived.Test.YthgainmcnjldaaaGreatDoorKLAV
set_option linter.unusedVariables false
set_option linter.unusedSimpArgs false
namespace Go.Proofs.YthgainmcnjldaaaGreatDoor
section
open Go.RowKit
def zeL:UpP:=⟨zhO,none,0,0,[],none,0,0,[]⟩
theorem zmS:zeL.at_.ob.length=16:=rfl
abbrev zUpd:Array Value:=#[.int .i64 0,.slice none 0 0,.int .i64 0,.int .i64 0,.int .i64 0,.int .u8 0,.int .u8 0,.int .u8 0,.int .u8 0,.int .u8 0,.int .u8 0,.int .u8 0,.int .u8 0,.int .u8 0,.int .u8 0,.int .u8 0,.int .u8 0,.int .u8 0,.int .u8 0,.int .u8 0,.int .u8 0,.slice none 0 0,.slice none 0 0,.slice none 0 0,.slice none 0 0,.slice none 0 0]
theorem zqo:Tryz.prog.built 49 [(0,.agg (attC zhO))]=some (updC zeL):=by kernel_rfl
theorem zgC {ops:Array Oper} {rest:List Oper} {o:Oper} {a:Act} {w:World} {Q:Exit→Act→World→Prop} (hgd:o.guard=none) (z:Operand) (ho:o.op = .build 49 #[(0,z)]) (hz:a.eval z = .agg (attC zhO))
  (hk:wpList Tryz.prog ops Q rest (a.put o.dst (.agg (updC zeL))) w):wpList Tryz.prog ops Q (o::rest) a w:=by
 refine wpList_plain hgd fun K hK'=>?_
 unfold Oper.wp execOp
 simp only [ho,List.map_toArray,List.map_cons,List.map_nil,hz,Sem.run_bind,run_build w _ _ _ zqo,Result.andThen_ok,Sem.run_pure]
 exact hK' _ _ hk
theorem zrL {w:World} {g i:Nat} {u:UpP} (h:w.rangeAt g i (updL u)) (hl:u.at_.ob.length=16):(loadVar 49 ⟨g,i,none⟩).run Tryz.prog w = .ok (.agg (updC u)) w :=
 run_loadVar_mid w g i 49 (updL u) _ h Tryz.underlying49 rfl (zmk hl)
theorem zrk {fn:Func} {R:Ending→World→Prop} {a:Act} {w:World} {c:Tmp} {g:Nat} {t:TypeId} {u:UpP} (hf:fn.results=#[.cell c 49])
  (hp:a.tmps.getD c undef = .pointer (some ⟨g,0,none⟩)) (h:Blk w g t (updC u)) (hl:u.at_.ob.length=16) (hd:a.defers=[]) (hR:R (.returned (.agg (updC u))) w) :
  bodyPost Tryz.prog fn R .ret a w:=by
 refine bodyPost_ret (v:=.agg (updC u)) ?_ hd hR
 have hp':a.tmps[c]?.getD undef = .pointer (some ⟨g,0,none⟩):=by simpa using hp
 simp [results,hf,hp',asAddr,zrL (zaj (l:=updL u) h) hl]
theorem zm4 (w:World):Calls Tryz.prog 90 #[] w fun e w'=>e = .returned (.agg (updC zeL))∧Below w.heap.size w w':=by
 have N0:=hide (Blk.new w 49 zUpd)
 have W0:Hid (Below w.heap.size w (w.alloc (.cells zUpd 49))):=hide ((Below.refl _ _).alloc (Nat.le_refl _) _)
 go_enter Tryz.func90,Tryz.ntmps90
 go_wp2_with fail
 refine (zmH _).mono ?_
 rintro e w1 ⟨rfl,hb1⟩
 have N1:=hide (N0.out.over hb1)
 have W1:=hide (zaa W0.out hb1 (by simp))
 clear hb1 N0 W0
 go_wp2_with (first
  | (with_reducible refine zgC rfl (.tmp 1) rfl rfl ?_)
  | (refine zgu rfl (.tmp 0) (.tmp 2) rfl w.heap.size rfl zeL rfl zmS N1.out rfl ?_;intro w2 hb2 hg2;have K2:=hide hb2;have G2:=hide hg2;clear hb2 hg2;refine Hid.out ?_))
 refine hide ?_
 go_wp2
 refine zrk (c:=0) rfl rfl K2.out zmS rfl ?_
 exact ⟨rfl,W1.out.grown G2.out W1.out.size (fun g hg=>by injection hg with hg;omega)⟩
section
variable {w y z:World} {ub:Nat} {U:UpP} {rs:List Rw}
end
end
section
open Go.RowKit
theorem zr5 (w:World) (lo hi:Nat):UpAt w lo hi zeL:=⟨zpq _ _ _,RowE.nil _ _ _ _,RowE.nil _ _ _ _,Nat.le_refl _,Nat.le_refl _⟩
end
section
set_option maxRecDepth 20000
set_option maxHeartbeats 4000000
open Go.RowKit
def zdF (x:TbP):Bool:=decide (x.mn≤200)&&(decide (x.un≤200)&&x.ms.all (fun m=>decide (m.key.length≤1024)))
def ze9 (n:Nat) (l:List TbP):Bool:=l.all zdF&&decide (n<10)
def zeB (u:UpP):Bool:=fewA u.at_&&(ze9 u.rn u.re&&ze9 u.nn u.ne)
theorem zjj {n:Nat} {l:List TbP} {x:TbP} (hm:x∈l) (h:zdF x=false):ze9 n l=false:=by
 have h1:l.all zdF=false:=List.all_eq_false.2 ⟨x,hm,by rw [h];decide⟩
 unfold ze9
 rw [h1,Bool.false_and]
theorem ztI {x:TbP} (h:¬ x.mn≤200):zdF x=false:=by
 unfold zdF;rw [decide_eq_false h,Bool.false_and]
theorem ztH {x:TbP} (h:¬ x.un≤200):zdF x=false:=by
 unfold zdF;rw [decide_eq_false h,Bool.false_and,Bool.and_false]
theorem ztJ {x:TbP} {m:Mr} (hm:m∈x.ms) (h:¬ m.key.length≤1024):zdF x=false:=by
 have h1:x.ms.all (fun m=>decide (m.key.length≤1024))=false:=List.all_eq_false.2 ⟨m,hm,by simpa using h⟩
 unfold zdF;rw [h1,Bool.and_false,Bool.and_false]
theorem zp4 {x:TbP} (h1:x.mn≤200) (h2:x.un≤200) (h3:∀ m∈x.ms,m.key.length≤1024):zdF x=true:=by
 unfold zdF
 rw [decide_eq_true h1,decide_eq_true h2,List.all_eq_true.2 (fun m hm=>decide_eq_true (h3 m hm))]
 rfl
theorem zhv {x:TbP} (h:zdF x=true):x.mn≤200∧x.un≤200∧∀ m∈x.ms,m.key.length≤1024:=by
 unfold zdF at h
 simp only [Bool.and_eq_true,decide_eq_true_eq,List.all_eq_true] at h
 exact ⟨h.1,h.2.1,h.2.2⟩
theorem zhu {n:Nat} {l:List TbP} (h:ze9 n l=true):(∀ x∈l,zdF x=true)∧n<10:=by
 unfold ze9 at h
 simp only [Bool.and_eq_true,decide_eq_true_eq,List.all_eq_true] at h
 exact h
theorem zrO (m:Mr):∃ S:ByteArray,(⟨m.key.toArray⟩:ByteArray)=S∧S.size=m.key.length:=⟨_,rfl,by simp [ByteArray.size]⟩
theorem zkD (w:World) (lo hi:Nat) (A:Option Addr) (n c:Nat) (l:List TbP) (h:RowE tbL mTb wTb w lo hi A n l) (hn:n≤9223372036854775807) :
  Calls Tryz.prog 42 #[.slice A n c] w fun e w'=>e = .returned (.bool (ze9 n l))∧Below w.heap.size w w':=by
 have H0:=hide h
 have HL:=hide h.len
 clear h
 go_enter Tryz.func42,Tryz.ntmps42
 go_wp2_with fail
 go_loop [3] (fun i=>∃ k:Nat,k≤n∧i = .int .i64 k∧∀ x∈l.take k,zdF x=true) (fun i=>n-(intOf i).toNat)
 case atStart=>exact ⟨0,Nat.zero_le _,rfl,fun x hx=>by simp at hx⟩
 case round =>
  obtain ⟨k,hk,rfl,hall⟩:=hrel
  have HA:=hide hall
  clear hall
  by_cases hlt:k<n
  ·obtain ⟨b,o,x,hA,_,_,hx,hat⟩:=H0.out.row.at_ (sz:=21) (fun y hy=>zjP (H0.out.sz y hy)) hlt
   have hkl:((k:Nat):Int)<(n:Int):=by omega
   have HX:=hide hx
   have hm:=List.mem_of_getElem? hx
   have HW:=hide (H0.out.sz x hm)
   have HMT:=hide (H0.out.mem x hm)
   have c19:w.cell? ⟨b,o+k*21+19,none⟩=some (.slice x.mA x.mn x.mc):=hat 19 _ (zmp (zcG HW.out))
   have c20:w.cell? ⟨b,o+k*21+20,none⟩=some (.slice x.uA x.un x.uc):=hat 20 _ (zmo (zcG HW.out))
   have HM:=hide hm
   clear hx hat hm
   subst hA
   by_cases h1:x.mn≤200
   ·have i1:¬ (200:Int)<(x.mn:Int):=by omega
    by_cases h2:x.un≤200
    ·have i2:¬ (200:Int)<(x.un:Int):=by omega
     have H1:=hide h1
     have H2:=hide h2
     clear h2
     go_wp2
     go_loop [4] (fun i=>∃ j:Nat,j≤x.mn∧i = .int .i64 j∧∀ m∈x.ms.take j,m.key.length≤1024) (fun i=>x.mn-(intOf i).toNat)
     case atStart=>exact ⟨0,Nat.zero_le _,rfl,fun m hm=>by simp at hm⟩
     case round =>
      obtain ⟨j,hj,rfl,hall⟩:=hrel
      have HB:=hide hall
      clear hall
      by_cases hlj:j<x.mn
      ·obtain ⟨b2,o2,m,hA2,_,_,hm,hat2⟩:=HMT.out.1.at_ (sz:=62) (fun y hy=>zdC (HW.out.ms y hy)) hlj
       have hjl:((j:Nat):Int)<(x.mn:Int):=by omega
       have HMM:=hide hm
       have hmm:=List.mem_of_getElem? hm
       obtain ⟨S,hS,hSl⟩:=zrO m
       have c61:w.cell? ⟨b2,o2+j*62+61,none⟩=some (.string S):=hat2 61 _ (by
        have h61:=zho (HW.out.ms m hmm)
        unfold mroC at h61
        rw [List.getElem?_toArray,hS] at h61
        exact h61)
       have HMX:=hide hmm
       rw [hA2] at c19
       clear hm hmm hat2 hS
       by_cases h3:m.key.length≤1024
       ·have i3:¬ (1024:Int)<(S.size:Int):=by omega
        have HBX:Hid (∀ y∈x.ms.take (j+1),y.key.length≤1024):=hide (by
         intro y hy
         rw [List.take_add_one,HMM.out] at hy
         rcases List.mem_append.1 hy with hy | hy
         ·exact HB.out y hy
         ·rw [show y=m by simpa using hy];exact h3)
        clear h3 hSl
        go_wp2
        go_round
        case rel=>exact ⟨j+1,by omega,by go_num,HBX.out⟩
        case measure=>simp [intOf];omega
       ·have i3:(1024:Int)<(S.size:Int):=by omega
        have HF:=hide (zjj (n:=n) HM.out (ztJ HMX.out h3))
        clear h3 hSl
        go_wp2
        go_ret
        exact ⟨by rw [HF.out];rfl,Below.refl _ _⟩
      ·obtain rfl:j=x.mn:=by omega
       have H3:Hid (∀ m∈x.ms,m.key.length≤1024):=hide (by
        intro m hm
        exact HB.out m (by rw [List.take_of_length_le (by rw [HMT.out.1.len];exact Nat.le_refl _)];exact hm))
       have HNX:Hid (∀ y∈l.take (k+1),zdF y=true):=hide (by
        intro y hy
        rw [List.take_add_one,HX.out] at hy
        rcases List.mem_append.1 hy with hy | hy
        ·exact HA.out y hy
        ·rw [show y=x by simpa using hy];exact zp4 H1.out H2.out H3.out)
       clear HB H3
       go_wp2
       go_round
       case rel=>exact ⟨k+1,by omega,by go_num,HNX.out⟩
       case measure=>simp [intOf];omega
    ·have i2:(200:Int)<(x.un:Int):=by omega
     have HF:=hide (zjj (n:=n) HM.out (ztH h2))
     clear h2
     go_wp2
     go_ret
     exact ⟨by rw [HF.out];rfl,Below.refl _ _⟩
   ·have i1:(200:Int)<(x.mn:Int):=by omega
    have HF:=hide (zjj (n:=n) HM.out (ztI h1))
    clear h1
    go_wp2
    go_ret
    exact ⟨by rw [HF.out];rfl,Below.refl _ _⟩
  ·obtain rfl:k=n:=by omega
   have H1:Hid (l.all zdF=true):=hide (by
    rw [List.all_eq_true]
    intro x hx
    exact HA.out x (by rw [List.take_of_length_le (by rw [HL.out];exact Nat.le_refl _)];exact hx))
   clear HA
   by_cases d0:k<10
   ·have i0:(k:Int)<10:=by omega
    have HV:Hid (ze9 k l=true):=hide (by unfold ze9;rw [H1.out,decide_eq_true d0];rfl)
    clear H1 d0
    go_wp2
    go_ret
    exact ⟨by rw [HV.out];rfl,Below.refl _ _⟩
   ·have i0:¬ (k:Int)<10:=by omega
    have HV:Hid (ze9 k l=false):=hide (by unfold ze9;rw [H1.out,decide_eq_false d0];rfl)
    clear H1 d0
    go_wp2
    go_ret
    exact ⟨by rw [HV.out];rfl,Below.refl _ _⟩
structure FewS (u:UpP):Prop where
 p:u.at_.pn≤9223372036854775807
 t:u.at_.tn≤9223372036854775807
 r:u.rn≤9223372036854775807
 n:u.nn≤9223372036854775807
theorem zrV (w:World) (lo hi:Nat) (u:UpP) (h:UpAt w lo hi u) (hh:hi≤w.heap.size) (hf:FewS u) :
  Calls Tryz.prog 25 #[.agg (updC u)] w fun e w'=>e = .returned (.bool (zeB u))∧Below w.heap.size w w':=by
 have S0:=hide (UpS.start h hh)
 have HOB:=h.ob
 have HF:=hide hf
 have RA0:=hide S0.out.ratt
 clear h hh hf
 go_enter Tryz.func25,Tryz.ntmps25
 go_wp2_with ((with_reducible refine zbl ?_ (.tmp 3) rfl w.heap.size 0 rfl RA0.out HOB ?_);· rfl)
 generalize w.alloc (.cells (updC u) 49)=w0 at *
 refine (ztG w0 lo hi u.at_ S0.out.at_.at_ S0.out.here HF.out.p HF.out.t).mono ?_
 cases h1:fewA u.at_
 ·rintro e w1 ⟨rfl,hb1⟩
  have S1:=hide (S0.out.on hb1)
  have HV:Hid (zeB u=false):=hide (by unfold zeB;rw [h1];rfl)
  clear hb1 S0 h1
  go_wp2
  go_ret
  exact ⟨by rw [HV.out];rfl,S1.out.bl⟩
 ·rintro e w1 ⟨rfl,hb1⟩
  have S1:=hide (S0.out.on hb1)
  have c24:=S1.out.c24
  have H1:=hide h1
  clear hb1 S0 h1 RA0
  go_wp2_with fail
  refine (zkD w1 lo hi u.rA u.rn u.rc u.re S1.out.at_.re HF.out.r).mono ?_
  cases h2:ze9 u.rn u.re
  ·rintro e w2 ⟨rfl,hb2⟩
   have S2:=hide (S1.out.on hb2)
   have HV:Hid (zeB u=false):=hide (by unfold zeB;rw [H1.out,h2];rfl)
   clear hb2 S1 h2 c24 H1
   go_wp2
   go_ret
   exact ⟨by rw [HV.out];rfl,S2.out.bl⟩
  ·rintro e w2 ⟨rfl,hb2⟩
   have S2:=hide (S1.out.on hb2)
   have c25:=S2.out.c25
   have H2:=hide h2
   clear hb2 S1 h2 c24
   go_wp2_with fail
   refine (zkD w2 lo hi u.nA u.nn u.nc u.ne S2.out.at_.ne HF.out.n).mono ?_
   cases h3:ze9 u.nn u.ne
   ·rintro e w3 ⟨rfl,hb3⟩
    have S3:=hide (S2.out.on hb3)
    have HV:Hid (zeB u=false):=hide (by unfold zeB;rw [H1.out,H2.out,h3];rfl)
    clear hb3 S2 h3 c25 H1 H2
    go_wp2
    go_ret
    exact ⟨by rw [HV.out];rfl,S3.out.bl⟩
   ·rintro e w3 ⟨rfl,hb3⟩
    have S3:=hide (S2.out.on hb3)
    have HV:Hid (zeB u=true):=hide (by unfold zeB;rw [H1.out,H2.out,h3];rfl)
    clear hb3 S2 h3 c25 H1 H2
    go_wp2
    go_ret
    exact ⟨by rw [HV.out];rfl,S3.out.bl⟩
end
section
set_option maxRecDepth 100000
open Go.RowKit Go.ChangeShapes Go.WideShapes Go.ChangeAt
theorem zns {H:Type} {enc:TypeId × Value→H} {w:World} {fuel:Nat} {l:List Value} {x:DataW H × List MemPlace} (h:DataW.trod enc Tryz.prog w 0 (fun _=>true) true fuel 198 l=some x) :
  ∃ s bs k,l=zfX s bs k∧bs.length=16∧(Lit.int .i64 s).wf=true∧(Lit.int .i64 k).wf=true:=by
 obtain ⟨y0,y1,n,_,hl,h0,h1⟩:=trod_struct2 Tryz.underlying198 h
 have e0:∀ l:List Value,(l.drop 0).take (Tryz.prog.cellsOf 37)=l.take 17:=fun l=>by rw [show Tryz.prog.cellsOf 37=17 by kernel_rfl];rfl
 have e1:∀ l:List Value,(l.drop 17).take (Tryz.prog.cellsOf 3)=(l.drop 17).take 1:=fun l=>by rw [show Tryz.prog.cellsOf 3=1 by kernel_rfl]
 have h0':=(congrArg (DataW.trod enc Tryz.prog w 0 (fun _=>true) true n 37) (e0 l)).symm.trans h0
 have h1':=(congrArg (DataW.trod enc Tryz.prog w 0 (fun _=>true) true n 3) (e1 l)).symm.trans h1
 obtain ⟨s,bs,hs,hbl,hw⟩:=zbI h0'
 obtain ⟨k,hk,_,wk⟩:=DataW.trod_int Tryz.underlying3 h1'
 have hll:l.length=18:=hl.trans (by kernel_rfl)
 refine ⟨s,bs,k,?_,hbl,hw,wk⟩
 have hd:(l.drop 17).take 1=l.drop 17:=List.take_of_length_le (by rw [List.length_drop,hll];decide)
 rw [hd] at hk
 rw [← List.take_append_drop 17 l,hs,hk]
 rfl
theorem zom {H:Type} {enc:TypeId × Value→H} {w:World} {fuel:Nat} {l:List Value} {x:DataW H × List MemPlace} (h:DataW.trod enc Tryz.prog w 0 (fun _=>true) true fuel 200 l=some x) :
  ∃ u:Ur,l=uroL u∧u.W:=by
 obtain ⟨xs,n,_,hx,hl,hlen,hfs⟩:=DataW.trod_struct Tryz.underlying200 h
 match xs,hlen with
 | [y0,y1,y2],_ =>
  have g0:=hfs 0 _ rfl
  have g1:=hfs 1 _ rfl
  have g2:=hfs 2 _ rfl
  have ci:Tryz.prog.cellsOf 3=1:=by kernel_rfl
  have cr:Tryz.prog.cellsOf 117=8:=by kernel_rfl
  have cp:Tryz.prog.cellsOf 198=18:=by kernel_rfl
  have e0:DataW.trod enc Tryz.prog w 0 (fun _=>true) true n 117 ((l.drop 0).take 8)=some y0:=by rw [← cr];exact g0
  have e1:DataW.trod enc Tryz.prog w 0 (fun _=>true) true n 198 ((l.drop 8).take 18)=some y1:=by rw [← cp];exact g1
  have e2:DataW.trod enc Tryz.prog w 0 (fun _=>true) true n 3 ((l.drop 26).take 1)=some y2:=by rw [← ci];exact g2
  have hll:l.length=27:=hl.trans (by kernel_rfl)
  obtain ⟨rd,hrd,hrl⟩:=zen Tryz.underlying117 Tryz.underlying5 (by kernel_rfl) (by kernel_rfl) e0
  obtain ⟨s,bs,k,hp,hbl,ws,wk⟩:=zns e1
  obtain ⟨lab,hlb,_,wl⟩:=DataW.trod_int Tryz.underlying3 e2
  refine ⟨⟨rd,s,bs,k,lab⟩,?_,⟨hrl,hbl,zhq ws,zhq wk,zhq wl⟩⟩
  have d26:(l.drop 26).take 1=l.drop 26:=List.take_of_length_le (by rw [List.length_drop,hll];decide)
  have a1:l.drop 8=(l.drop 8).take 18++l.drop 26:=by
   conv=>lhs;rw [← List.take_append_drop 18 (l.drop 8),List.drop_drop]
  have a0:l=(l.drop 0).take 8++l.drop 8:=by
   rw [List.drop_zero,List.take_append_drop]
  rw [a0,a1,hrd,hp,← d26,hlb]
  rfl
theorem zpB {H:Type} {enc:TypeId × Value→H} {w:World} {fuel:Nat} {l:List Value} {x:DataW H × List MemPlace} (h:DataW.trod enc Tryz.prog w 0 (fun _=>true) true fuel 119 l=some x) :
  ∃ m:Mr,l=mroL m∧m.W:=by
 obtain ⟨xs,n,_,hx,hl,hlen,hfs⟩:=DataW.trod_struct Tryz.underlying119 h
 match xs,hlen with
 | [y0,y1,y2,y3,y4,y5,y6],_ =>
  have g0:=hfs 0 _ rfl
  have g1:=hfs 1 _ rfl
  have g2:=hfs 2 _ rfl
  have g3:=hfs 3 _ rfl
  have g4:=hfs 4 _ rfl
  have g5:=hfs 5 _ rfl
  have g6:=hfs 6 _ rfl
  have ci:Tryz.prog.cellsOf 3=1:=by kernel_rfl
  have cr:Tryz.prog.cellsOf 117=8:=by kernel_rfl
  have ca:Tryz.prog.cellsOf 37=17:=by kernel_rfl
  have cs1:Tryz.prog.cellsOf 9=1:=by kernel_rfl
  have e0:DataW.trod enc Tryz.prog w 0 (fun _=>true) true n 3 ((l.drop 0).take 1)=some y0:=by rw [← ci];exact g0
  have e1:DataW.trod enc Tryz.prog w 0 (fun _=>true) true n 117 ((l.drop 1).take 8)=some y1:=by rw [← cr];exact g1
  have e2:DataW.trod enc Tryz.prog w 0 (fun _=>true) true n 3 ((l.drop 9).take 1)=some y2:=by rw [← ci];exact g2
  have e3:DataW.trod enc Tryz.prog w 0 (fun _=>true) true n 37 ((l.drop 10).take 17)=some y3:=by rw [← ca];exact g3
  have e4:DataW.trod enc Tryz.prog w 0 (fun _=>true) true n 37 ((l.drop 27).take 17)=some y4:=by rw [← ca];exact g4
  have e5:DataW.trod enc Tryz.prog w 0 (fun _=>true) true n 37 ((l.drop 44).take 17)=some y5:=by rw [← ca];exact g5
  have e6:DataW.trod enc Tryz.prog w 0 (fun _=>true) true n 9 ((l.drop 61).take 1)=some y6:=by rw [← cs1];exact g6
  have hll:l.length=62:=hl.trans (by kernel_rfl)
  obtain ⟨k,hk,_,wk⟩:=DataW.trod_int Tryz.underlying3 e0
  obtain ⟨rd,hrd,hrl⟩:=zen Tryz.underlying117 Tryz.underlying5 (by kernel_rfl) (by kernel_rfl) e1
  obtain ⟨a,ha,_,wa⟩:=DataW.trod_int Tryz.underlying3 e2
  obtain ⟨ss,sb,hs,hsl,hsw⟩:=zbI e3
  obtain ⟨gs,gb,hg,hgl,hgw⟩:=zbI e4
  obtain ⟨fs,fb,hff,hfl,hfw⟩:=zbI e5
  obtain ⟨ky,hky,_,_⟩:=DataW.trod_string Tryz.underlying9 e6
  have hcs:l=mroL ⟨k,rd,a,ss,sb,gs,gb,fs,fb,ky.data.toList⟩:=by
   have d61:(l.drop 61).take 1=l.drop 61:=List.take_of_length_le (by rw [List.length_drop,hll];decide)
   have a5:l.drop 44=(l.drop 44).take 17++l.drop 61:=by
    conv=>lhs;rw [← List.take_append_drop 17 (l.drop 44),List.drop_drop]
   have a4:l.drop 27=(l.drop 27).take 17++l.drop 44:=by
    conv=>lhs;rw [← List.take_append_drop 17 (l.drop 27),List.drop_drop]
   have a3:l.drop 10=(l.drop 10).take 17++l.drop 27:=by
    conv=>lhs;rw [← List.take_append_drop 17 (l.drop 10),List.drop_drop]
   have a2:l.drop 9=(l.drop 9).take 1++l.drop 10:=by
    conv=>lhs;rw [← List.take_append_drop 1 (l.drop 9),List.drop_drop]
   have a1:l.drop 1=(l.drop 1).take 8++l.drop 9:=by
    conv=>lhs;rw [← List.take_append_drop 8 (l.drop 1),List.drop_drop]
   have a0:l=(l.drop 0).take 1++l.drop 1:=by
    rw [List.drop_zero,List.take_append_drop]
   have hb:(⟨ky.data.toList.toArray⟩:ByteArray)=ky:=by cases ky;rfl
   rw [a0,a1,a2,a3,a4,a5,hk,hrd,ha,hs,hg,hff,← d61,hky]
   unfold mroL
   rw [hb]
  exact ⟨⟨k,rd,a,ss,sb,gs,gb,fs,fb,ky.data.toList⟩,hcs,⟨hrl,hsl,hgl,hfl⟩⟩
instance:Inhabited Ur:=⟨zeroU⟩
instance:Inhabited Mr:=⟨⟨0,[],0,0,[],0,[],0,[],[]⟩⟩
instance:Inhabited TbP:=⟨⟨0,0,0,[],none,0,0,[],none,0,0,[]⟩⟩
theorem zmm {H:Type} {enc:TypeId × Value→H} {w:World} {fuel:Nat} {l:List Value} {x:DataW H × List MemPlace} (h:DataW.trod enc Tryz.prog w 0 (fun _=>true) true fuel 115 l=some x) :
  ∃ q:TbP,l=tbL q∧mTb w 0 w.heap.size q∧wTb q:=by
 obtain ⟨xs,n,_,hx,hl,hlen,hfs⟩:=DataW.trod_struct Tryz.underlying115 h
 match xs,hlen with
 | [y0,y1,y2,y3,y4],_ =>
  have g0:=hfs 0 _ rfl
  have g1:=hfs 1 _ rfl
  have g2:=hfs 2 _ rfl
  have g3:=hfs 3 _ rfl
  have g4:=hfs 4 _ rfl
  have ci:Tryz.prog.cellsOf 3=1:=by kernel_rfl
  have ca:Tryz.prog.cellsOf 37=17:=by kernel_rfl
  have cm:Tryz.prog.cellsOf 112=1:=by kernel_rfl
  have cu:Tryz.prog.cellsOf 113=1:=by kernel_rfl
  have e0:DataW.trod enc Tryz.prog w 0 (fun _=>true) true n 3 ((l.drop 0).take 1)=some y0:=by rw [← ci];exact g0
  have e1:DataW.trod enc Tryz.prog w 0 (fun _=>true) true n 3 ((l.drop 1).take 1)=some y1:=by rw [← ci];exact g1
  have e2:DataW.trod enc Tryz.prog w 0 (fun _=>true) true n 37 ((l.drop 2).take 17)=some y2:=by rw [← ca];exact g2
  have e3:DataW.trod enc Tryz.prog w 0 (fun _=>true) true n 112 ((l.drop 19).take 1)=some y3:=by rw [← cm];exact g3
  have e4:DataW.trod enc Tryz.prog w 0 (fun _=>true) true n 113 ((l.drop 20).take 1)=some y4:=by rw [← cu];exact g4
  have hll:l.length=21:=hl.trans (by kernel_rfl)
  have one:∀ k,k<21→∃ v,(l.drop k).take 1=[v]:=fun k hk=>by
   have hlen:((l.drop k).take 1).length=1:=by rw [List.length_take,List.length_drop,hll];omega
   match (l.drop k).take 1,hlen with
   | [v],_=>exact ⟨v,rfl⟩
  obtain ⟨s,hs0,_,_⟩:=DataW.trod_int Tryz.underlying3 e0
  obtain ⟨f,hf0,_,_⟩:=DataW.trod_int Tryz.underlying3 e1
  obtain ⟨ns,nb,hn0,hbl,_⟩:=zbI e2
  obtain ⟨v3,hv3⟩:=one 19 (by decide)
  obtain ⟨v4,hv4⟩:=one 20 (by decide)
  rw [hv3] at e3
  rw [hv4] at e4
  have hcs:l = .int .i64 s :: .int .i64 f::((.int .i64 ns::bvs nb)++[v3,v4]):=by
   have d20:(l.drop 20).take 1=l.drop 20:=List.take_of_length_le (by rw [List.length_drop,hll];decide)
   have a19:l.drop 19=(l.drop 19).take 1++l.drop 20:=by
    conv=>lhs;rw [← List.take_append_drop 1 (l.drop 19),List.drop_drop]
   have a2:l.drop 2=(l.drop 2).take 17++l.drop 19:=by
    conv=>lhs;rw [← List.take_append_drop 17 (l.drop 2),List.drop_drop]
   have a1:l.drop 1=(l.drop 1).take 1++l.drop 2:=by
    conv=>lhs;rw [← List.take_append_drop 1 (l.drop 1),List.drop_drop]
   have a0:l=(l.drop 0).take 1++l.drop 1:=by rw [List.drop_zero,List.take_append_drop]
   rw [a0,a1,a2,a19,← d20,hs0,hf0,hn0,hv3,hv4]
   rfl
  obtain ⟨mA,mn,mc,ms,rfl,hm,hmn,_⟩:=zbO (α:=Mr) (enc:=mroL) (m:=fun _ _ _ _=>True) (W:=Mr.W) (K:=62) (by decide) Tryz.underlying112 (by kernel_rfl) (fun x hx=>zdC hx)
   (fun fuel l y h=>by obtain ⟨m,h1,h2⟩:=zpB h;exact ⟨m,h1,trivial,h2⟩) e3
  obtain ⟨uA,un,uc,us,rfl,hu,hun,_⟩:=zbO (α:=Ur) (enc:=uroL) (m:=fun _ _ _ _=>True) (W:=Ur.W) (K:=27) (by decide) Tryz.underlying113 (by kernel_rfl) (fun x hx=>zel hx)
   (fun fuel l y h=>by obtain ⟨m,h1,h2⟩:=zom h;exact ⟨m,h1,trivial,h2⟩) e4
  exact ⟨⟨s,f,ns,nb,mA,mn,mc,ms,uA,un,uc,us⟩,hcs,⟨hm.row,hu.row,hmn,hun⟩,⟨hbl,hm.sz,hu.sz⟩⟩
theorem zon {H:Type} {enc:TypeId × Value→H} {w:World} {fuel:Nat} {l:List Value} {x:DataW H × List MemPlace} (h:DataW.trod enc Tryz.prog w 0 (fun _=>true) true fuel 49 l=some x) :
  ∃ q:UpP,l=updL q∧UpAt w 0 w.heap.size q∧FewS q:=by
 obtain ⟨xs,n,_,hx,hl,hlen,hfs⟩:=DataW.trod_struct Tryz.underlying49 h
 match xs,hlen with
 | [y0,y1,y2],_ =>
  have g0:=hfs 0 _ rfl
  have g1:=hfs 1 _ rfl
  have g2:=hfs 2 _ rfl
  have ca:Tryz.prog.cellsOf 46=24:=by kernel_rfl
  have ct:Tryz.prog.cellsOf 47=1:=by kernel_rfl
  have e0:DataW.trod enc Tryz.prog w 0 (fun _=>true) true n 46 ((l.drop 0).take 24)=some y0:=by rw [← ca];exact g0
  have e1:DataW.trod enc Tryz.prog w 0 (fun _=>true) true n 47 ((l.drop 24).take 1)=some y1:=by rw [← ct];exact g1
  have e2:DataW.trod enc Tryz.prog w 0 (fun _=>true) true n 47 ((l.drop 25).take 1)=some y2:=by rw [← ct];exact g2
  have hll:l.length=26:=hl.trans (by kernel_rfl)
  have one:∀ k,k<26→∃ v,(l.drop k).take 1=[v]:=fun k hk=>by
   have hlen:((l.drop k).take 1).length=1:=by rw [List.length_take,List.length_drop,hll];omega
   match (l.drop k).take 1,hlen with
   | [v],_=>exact ⟨v,rfl⟩
  obtain ⟨a,ha,hat,hpc,htc⟩:=zqz e0
  obtain ⟨v1,hv1⟩:=one 24 (by decide)
  obtain ⟨v2,hv2⟩:=one 25 (by decide)
  rw [hv1] at e1
  rw [hv2] at e2
  have hcs:l=attL a++[v1,v2]:=by
   have d25:(l.drop 25).take 1=l.drop 25:=List.take_of_length_le (by rw [List.length_drop,hll];decide)
   have a24:l.drop 24=(l.drop 24).take 1++l.drop 25:=by
    conv=>lhs;rw [← List.take_append_drop 1 (l.drop 24),List.drop_drop]
   have a0:l=(l.drop 0).take 24++l.drop 24:=by rw [List.drop_zero,List.take_append_drop]
   rw [a0,a24,← d25,ha,hv1,hv2]
   rfl
  obtain ⟨rA,rn,rc,re,rfl,hr,hrn,hrc⟩:=zbO (α:=TbP) (enc:=tbL) (m:=mTb) (W:=wTb) (K:=21) (by decide) Tryz.underlying47 (by kernel_rfl) (fun x hx=>zjP hx) (fun fuel l y h=>zmm h) e1
  obtain ⟨nA,nn,nc,ne,rfl,hn,hnn,hnc⟩:=zbO (α:=TbP) (enc:=tbL) (m:=mTb) (W:=wTb) (K:=21) (by decide) Tryz.underlying47 (by kernel_rfl) (fun x hx=>zjP hx) (fun fuel l y h=>zmm h) e2
  exact ⟨⟨a,rA,rn,rc,re,nA,nn,nc,ne⟩,hcs,⟨hat,hr,hn,hrn,hnn⟩,⟨Nat.le_trans hat.pc hpc,Nat.le_trans hat.tc htc,Nat.le_trans hrn hrc,Nat.le_trans hnn hnc⟩⟩
end
section
open Go.RowKit
def zsB (o:Op) (f:FuncId):Bool:=match o with
 | .call c=>(match c.callee with
  | .value (.func g)=>g==f
  | _=>false)
 | _=>false
section
variable {P:Program} {ops:Array Oper} {Q:Exit→Act→World→Prop} {md:Region.Mode} {S:World→Prop} {fuel:Nat} {listed:Array Bool} {a:Act} {w:World} {i:Nat} {o:Oper}
theorem rgA {F:World→Prop} {v:Value} {a':Act} {l':Array Bool} (K:∀ w,S w→F w) (h:wpAnyH P md ops Q S fuel l' a' w) (h0:listed.toList.findIdx? (fun b=>!b)=some i:=by rfl) (hi:ops.toList[i]?=some o:=by exact rfl) (hg:Region.wanted o (yielded ops a.tmps)=true:=by rfl)
  (hy:∀ w,S w→F w→(execOp a.eval o).run P w = .ok (.value v) w:=by (intro w' hSw kc;(try obtain ⟨_,_,_,_,_,_⟩:=kc);go_simp <;> with_reducible rfl)) (hs:Region.noSelect ops=true:=by kernel_rfl) (hf:Region.free md ops listed i=true:=by kernel_rfl) (hr:(Region.ready md ops listed).contains i=true:=by kernel_rfl)
  (hQ:∀ c a w,Q (.panic c) (a.put o.dst v) w→Q (.panic c) a w:=by exact fun _ _ _ h=>h) (hS:S w:=by assumption)
  (hl:listed.setIfInBounds i true=l':=by first | (simp only [List.setIfInBounds_toArray,List.set_cons_zero,List.set_cons_succ];exact rfl) | exact rfl) (ha:a.put o.dst v=a':=by first | (simp only [Act.put,List.setIfInBounds_toArray,List.set_cons_zero,List.set_cons_succ];exact rfl) | exact rfl):wpAnyH P md ops Q S (fuel+1) listed a w:=by
 subst hl ha;exact zcl hi hs hf hr hQ (Or.inl ⟨hg,fun w hw=>hy w hw (K w hw)⟩) hS h
theorem rgZ {a':Act} {l':Array Bool} (h:wpAnyH P md ops Q S fuel l' a' w) (h0:listed.toList.findIdx? (fun b=>!b)=some i:=by rfl) (hi:ops.toList[i]?=some o:=by exact rfl) (hg:Region.wanted o (yielded ops a.tmps)=false:=by rfl) (hs:Region.noSelect ops=true:=by kernel_rfl) (hf:Region.free md ops listed i=true:=by kernel_rfl) (hr:(Region.ready md ops listed).contains i=true:=by kernel_rfl)
  (hQ:∀ c a w,Q (.panic c) (a.put o.dst undef) w→Q (.panic c) a w:=by exact fun _ _ _ h=>h) (hS:S w:=by assumption)
  (hl:listed.setIfInBounds i true=l':=by first | (simp only [List.setIfInBounds_toArray,List.set_cons_zero,List.set_cons_succ];exact rfl) | exact rfl) (ha:a.put o.dst undef=a':=by first | (simp only [Act.put,List.setIfInBounds_toArray,List.set_cons_zero,List.set_cons_succ];exact rfl) | exact rfl):wpAnyH P md ops Q S (fuel+1) listed a w:=by
 subst hl ha;exact zcl hi hs hf hr hQ (Or.inr ⟨hg,rfl⟩) hS h
theorem rgB {v:Value} {f:FuncId} {args:Array Value} {a':Act} {l':Array Bool} (hc:Calls P f args w fun e w'=>e = .returned v∧Below w.heap.size w w') (h:∀ w',S w'→Below w.heap.size w w'→wpAnyH P md ops Q S fuel l' a' w')
  (h0:listed.toList.findIdx? (fun b=>!b)=some i:=by rfl) (hi:ops.toList[i]?=some o:=by exact rfl) (hf:zsB o.op f=true:=by rfl) (hw:Region.wanted o (yielded ops a.tmps)=true:=by rfl) (hr:Region.ready md ops listed=[i]:=by kernel_rfl) (hrun:∀ w,(execOp a.eval o).run P w = .ok (.enter f args) w:=by (intro w;kernel_rfl))
  (hS:S w:=by assumption) (hb:∀ w w',S w→Below w.heap.size w w'→S w':=by exact fun _ _ h hb=>h.over hb)
  (hl:listed.setIfInBounds i true=l':=by first | (simp only [List.setIfInBounds_toArray,List.set_cons_zero,List.set_cons_succ];exact rfl) | exact rfl) (ha:a.put o.dst v=a':=by first | (simp only [Act.put,List.setIfInBounds_toArray,List.set_cons_zero,List.set_cons_succ];exact rfl) | exact rfl):wpAnyH P md ops Q S (fuel+1) listed a w:=by
 subst hl ha
 refine zag hi hr hw hc hrun (fun e w' hr=>?_)
 obtain ⟨rfl,hbl⟩:=hr
 exact ⟨v,rfl,hb _ _ hS hbl,fun hS'=>h _ hS' hbl⟩
theorem rgE {v:Value} {f:FuncId} {args:Array Value} {a':Act} {l':Array Bool} (hc:Calls P f args w fun e w'=>e = .returned v∧w=w') (h:wpAnyH P md ops Q S fuel l' a' w)
  (h0:listed.toList.findIdx? (fun b=>!b)=some i:=by rfl) (hi:ops.toList[i]?=some o:=by exact rfl) (hf:zsB o.op f=true:=by rfl) (hw:Region.wanted o (yielded ops a.tmps)=true:=by rfl) (hr:Region.ready md ops listed=[i]:=by kernel_rfl) (hrun:∀ w,(execOp a.eval o).run P w = .ok (.enter f args) w:=by (intro w;kernel_rfl))
  (hS:S w:=by assumption)
  (hl:listed.setIfInBounds i true=l':=by first | (simp only [List.setIfInBounds_toArray,List.set_cons_zero,List.set_cons_succ];exact rfl) | exact rfl) (ha:a.put o.dst v=a':=by first | (simp only [Act.put,List.setIfInBounds_toArray,List.set_cons_zero,List.set_cons_succ];exact rfl) | exact rfl):wpAnyH P md ops Q S (fuel+1) listed a w:=by
 subst hl ha
 refine zag hi hr hw hc hrun (fun e w' hr=>?_)
 obtain ⟨rfl,rfl⟩:=hr
 exact ⟨v,rfl,hS,fun _=>h⟩
theorem rgM {v:Value} {w':World} {a':Act} {l':Array Bool} (h:S w'→wpAnyH P md ops Q S fuel l' a' w') (h0:listed.toList.findIdx? (fun b=>!b)=some i:=by rfl) (hi:ops.toList[i]?=some o:=by exact rfl) (hw:Region.wanted o (yielded ops a.tmps)=true:=by rfl)
  (hrun:(execOp a.eval o).run P w = .ok (.value v) w':=by (go_simp <;> first | with_reducible rfl | exact ⟨rfl,rfl⟩)) (hr:Region.ready md ops listed=[i]:=by kernel_rfl) (hS:S w':=by (first | assumption | (apply Blk.alloc;assumption)))
  (hl:listed.setIfInBounds i true=l':=by first | (simp only [List.setIfInBounds_toArray,List.set_cons_zero,List.set_cons_succ];exact rfl) | exact rfl) (ha:a.put o.dst v=a':=by first | (simp only [Act.put,List.setIfInBounds_toArray,List.set_cons_zero,List.set_cons_succ];exact rfl) | exact rfl):wpAnyH P md ops Q S (fuel+1) listed a w:=by
 subst hl ha
 exact zaZ hi hr hw hrun hS h
theorem rgTwo {i j:Nat} {o o':Oper} {v v':Value} {w1:World} {a':Act} {l':Array Bool} (hrun:(execOp a.eval o).run P w = .ok (.value v) w) (hrun2:(execOp (a.put o'.dst v').eval o).run P w1 = .ok (.value v) w1)
  (hrun':(execOp a.eval o').run P w = .ok (.value v') w1) (hrun2':(execOp (a.put o.dst v).eval o').run P w = .ok (.value v') w1) (hS:S w) (hS1:S w1) (h:wpAnyH P md ops Q S fuel l' a' w1)
  (hi:ops.toList[i]?=some o) (hj:ops.toList[j]?=some o') (hr:Region.ready md ops listed=[i,j]:=by kernel_rfl) (hri:Region.ready md ops (listed.setIfInBounds i true)=[j]:=by kernel_rfl) (hrj:Region.ready md ops (listed.setIfInBounds j true)=[i]:=by kernel_rfl)
  (hw:Region.wanted o (yielded ops a.tmps)=true:=by rfl) (hw':Region.wanted o' (yielded ops a.tmps)=true:=by rfl) (hw2:Region.wanted o' (yielded ops (a.put o.dst v).tmps)=true:=by rfl) (hw2':Region.wanted o (yielded ops (a.put o'.dst v').tmps)=true:=by rfl)
  (hl:(listed.setIfInBounds i true).setIfInBounds j true=l':=by first | (simp only [List.setIfInBounds_toArray,List.set_cons_zero,List.set_cons_succ];exact rfl) | exact rfl) (hl2:(listed.setIfInBounds j true).setIfInBounds i true=l':=by first | (simp only [List.setIfInBounds_toArray,List.set_cons_zero,List.set_cons_succ];exact rfl) | exact rfl)
  (ha:(a.put o.dst v).put o'.dst v'=a':=by first | (simp only [Act.put,List.setIfInBounds_toArray,List.set_cons_zero,List.set_cons_succ];exact rfl) | exact rfl) (ha2:(a.put o'.dst v').put o.dst v=a':=by first | (simp only [Act.put,List.setIfInBounds_toArray,List.set_cons_zero,List.set_cons_succ];exact rfl) | exact rfl):wpAnyH P md ops Q S (fuel+1+1) listed a w:=by
 subst hl ha
 refine wpAnyH_ready hr (by simp) (AllReadyH.cons (zbY hi) (fun K hK=>?_) (AllReadyH.cons (zbY hj) (fun K hK=>?_) AllReadyH.nil))
 ·rw [if_pos hw]
  unfold Oper.wp
  rw [hrun]
  exact hK.out _ _ hS (fun _=>zaZ hj hri hw2 hrun2' hS1 (fun _=>h))
 ·rw [if_pos hw']
  unfold Oper.wp
  rw [hrun']
  exact hK.out _ _ hS1 (fun _=>zaZ hi hrj hw2' hrun2 hS1 (fun _=>by rw [hl2,ha2];exact h))
end
end
end Go.Proofs.YthgainmcnjldaaaGreatDoor
