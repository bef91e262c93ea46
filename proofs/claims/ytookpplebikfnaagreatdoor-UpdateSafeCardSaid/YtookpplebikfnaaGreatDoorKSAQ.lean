/-
  The document's own Same and None of layer 9, of any attributes, in whatever memory. No condition beyond sizes that fit memory.
  Which families are known, and the numbers that stand for their sizes: package family, in whatever memory. No condition.
  Writing into the parts of a route that lies in a block; one cell; copy into its distinguisher. No condition.
-/
import Derived.Test.YtookpplebikfnaaGreatDoorKSAM
import Derived.Test.YtookpplebikfnaaGreatDoorKSAP
set_option linter.unusedVariables false
set_option linter.unusedSimpArgs false
namespace Go.Proofs.YtookpplebikfnaaGreatDoor
section
set_option maxRecDepth 20000
open Go.RowKit
theorem zmp (a b:Ats):zb3 a b=true↔a=b:=by
 obtain ⟨a1,a2,a3,a4,a5,a6,a7,a8,a9⟩:=a
 obtain ⟨b1,b2,b3,b4,b5,b6,b7,b8,b9⟩:=b
 unfold zb3
 simp only [Bool.and_eq_true,decide_eq_true_eq,Ats.mk.injEq]
 constructor
 ·rintro ⟨h1,h2,h3,⟨h4,h5⟩,h6,h7,h8,h9⟩;exact ⟨h1,h6,h2,h3,h4,h5,h7,h8,h9⟩
 ·rintro ⟨h1,h6,h2,h3,h4,h5,h7,h8,h9⟩;exact ⟨h1,h2,h3,⟨h4,h5⟩,h6,h7,h8,h9⟩
theorem zcM {a b:Ats} (h:a≠b):zb3 a b=false:=by
 cases h1:zb3 a b
 ·rfl
 ·exact absurd ((zmp a b).1 h1) h
set_option maxHeartbeats 4000000 in
theorem zio (w:World) (lo hi lo' hi':Nat) (A B:Option Addr) (n m c d:Nat) (xs ys:List SgP) (h:RowE sgL mS wS w lo hi A n xs) (h':RowE sgL mS wS w lo' hi' B m ys) (hh:hi≤w.heap.size) (hh':hi'≤w.heap.size) (hn:n≤1000000000000) (hns:∀ x∈xs,x.n≤1000000000000) :
  Calls Tryz.prog 37 #[.slice A n c,.slice B m d] w fun e w'=>e = .returned (.bool (decide (xs.map SgP.sg=ys.map SgP.sg)))∧Below w.heap.size w w':=by
 have H:=hide h
 have H':=hide h'
 have HNS:=hide hns
 have HLX:Hid ((xs.map SgP.sg).length=n):=hide (by rw [List.length_map];exact h.len)
 have HLY:Hid ((ys.map SgP.sg).length=m):=hide (by rw [List.length_map];exact h'.len)
 clear h h' hns
 by_cases hnm:n=m
 ·subst hnm
  have hnn:((n:Int) != (n:Int))=false:=by simp
  go_enter Tryz.func37,Tryz.ntmps37
  go_wp2_with fail
  go_loopw [5] (fun i wr=>∃ k:Nat,k≤n∧i = .int .i64 k∧(xs.map SgP.sg).take k=(ys.map SgP.sg).take k∧Below w.heap.size w wr) (fun i _=>n-(intOf i).toNat)
  case atStart=>exact ⟨0,Nat.zero_le _,rfl,rfl,Below.refl _ _⟩
  case round =>
   obtain ⟨k,hk,rfl,heq,hbel⟩:=hrel
   have HEQ:=hide heq
   have WB:=hide hbel
   clear heq hbel
   by_cases hlt:k<n
   ·have hkl:((k:Nat):Int)<(n:Int):=by omega
    obtain ⟨b,o,x,rfl,_,hb2,hx,hat⟩:=H.out.row.at_ (sz:=2) (fun y _=>zdS y) hlt
    obtain ⟨b',o',y,rfl,_,hb2',hy,hat'⟩:=H'.out.row.at_ (sz:=2) (fun y _=>zdS y) hlt
    have hxm:=H.out.mem x (List.mem_of_getElem? hx)
    have hym:=H'.out.mem y (List.mem_of_getElem? hy)
    have hxn:=HNS.out x (List.mem_of_getElem? hx)
    have HXP:Hid ((xs.map SgP.sg)[k]?=some x.sg):=hide (by rw [List.getElem?_map,hx];rfl)
    have HYP:Hid ((ys.map SgP.sg)[k]?=some y.sg):=hide (by rw [List.getElem?_map,hy];rfl)
    obtain ⟨st,A2,n2,c2,us⟩:=x
    obtain ⟨st',B2,m2,d2,vs⟩:=y
    have HC0:Hid (∀ z:World,Below w.heap.size w z→z.cell? ⟨b,o+k*2,none⟩=some (.bool st)):=hide (fun z hz=>by rw [hz.cell (by show b<w.heap.size;omega)];exact hat 0 _ rfl)
    have HC1:Hid (∀ z:World,Below w.heap.size w z→z.cell? ⟨b,o+k*2+1,none⟩=some (.slice A2 n2 c2)):=hide (fun z hz=>by rw [hz.cell (by show b<w.heap.size;omega)];exact hat 1 _ rfl)
    have HD0:Hid (∀ z:World,Below w.heap.size w z→z.cell? ⟨b',o'+k*2,none⟩=some (.bool st')):=hide (fun z hz=>by rw [hz.cell (by show b'<w.heap.size;omega)];exact hat' 0 _ rfl)
    have HD1:Hid (∀ z:World,Below w.heap.size w z→z.cell? ⟨b',o'+k*2+1,none⟩=some (.slice B2 m2 d2)):=hide (fun z hz=>by rw [hz.cell (by show b'<w.heap.size;omega)];exact hat' 1 _ rfl)
    have XR:Hid (AtG inL w lo hi A2 n2 us):=hide hxm.1
    have YR:Hid (AtG inL w lo' hi' B2 m2 vs):=hide hym.1
    have HUL:Hid (us.length=n2):=hide hxm.1.len
    have HVL:Hid (vs.length=m2):=hide hym.1.len
    clear hx hy hat hat' hxm hym
    have hn2:n2≤1000000000000:=hxn
    clear hxn
    by_cases hst:st=st'
    ·subst hst
     have nst:(st != st)=false:=by simp
     by_cases hnm2:n2=m2
     ·subst hnm2
      have nnm:((n2:Int) != (n2:Int))=false:=by simp
      go_wp2_with fail
      refine wp_region_held_drew (S:=fun z=>Below w.heap.size w z) (by kernel_rfl) (zai WB.out) (fun hHeld=>?_)
      refine rgT 0 ?_
      refine rgT 1 ?_
      refine rgT 2 ?_
      refine rgT 3 ?_
      refine rgK 4 (fun w' hSw=>HC0.out w' hSw) ?_
      refine rgT 5 ?_
      refine rgT 6 ?_
      refine rgT 7 ?_
      refine rgT 8 ?_
      refine rgK 9 (fun w' hSw=>HD0.out w' hSw) ?_
      refine rgT 10 ?_
      refine rgT 11 ?_
      refine rgT 12 ?_
      refine rgT 13 ?_
      refine rgT 14 ?_
      refine rgT 15 ?_
      refine rgK 16 (fun w' hSw=>HC1.out w' hSw) ?_
      refine rgT 17 ?_
      refine rgT 18 ?_
      refine rgT 19 ?_
      refine rgT 20 ?_
      refine rgT 21 ?_
      refine rgK 22 (fun w' hSw=>HD1.out w' hSw) ?_
      refine rgT 23 ?_
      refine rgT 24 ?_
      refine rgT 25 ?_
      refine wpAnyH_done (by kernel_rfl) ?_ _
      go_wp2_with fail
      go_loopw [6] (fun i wr=>∃ j:Nat,j≤n2∧i = .int .i64 j∧us.take j=vs.take j∧Below w.heap.size w wr) (fun i _=>n2-(intOf i).toNat)
      case atStart=>exact ⟨0,Nat.zero_le _,rfl,rfl,zai WB.out⟩
      case round =>
       clear WB hHeld
       obtain ⟨j,hj,rfl,heq2,hbel2⟩:=hrel
       have HEQ2:=hide heq2
       have WB:=hide hbel2
       have cx:=HC1.out wr hbel2
       clear heq2 hbel2
       by_cases hlj:j<n2
       ·have hjl:((j:Nat):Int)<(n2:Int):=by omega
        obtain ⟨b2,o2,u,rfl,_,hc2,hu,hat2⟩:=XR.out.at_ (sz:=1) (fun y _=>ze1 y) hlj
        obtain ⟨b3,o3,v,rfl,_,hc3,hv,hat3⟩:=YR.out.at_ (sz:=1) (fun y _=>ze1 y) hlj
        have HE1:Hid (∀ z:World,Below w.heap.size w z→z.cell? ⟨b2,o2+j,none⟩=some (.int .i64 u)):=hide (fun z hz=>by rw [hz.cell (by show b2<w.heap.size;omega)];have h1:=hat2 0 _ rfl;rw [Nat.mul_one] at h1;exact h1)
        have HF1:Hid (∀ z:World,Below w.heap.size w z→z.cell? ⟨b3,o3+j,none⟩=some (.int .i64 v)):=hide (fun z hz=>by rw [hz.cell (by show b3<w.heap.size;omega)];have h1:=hat3 0 _ rfl;rw [Nat.mul_one] at h1;exact h1)
        have HU:=hide hu
        have HV:=hide hv
        clear hu hv hat2 hat3
        by_cases huv:u=v
        ·subst huv
         have nuv:(u != u)=false:=by simp
         have HNX:=hide (zb8 HEQ2.out HU.out HV.out rfl)
         go_wp2_with fail
         refine wp_region_held_drew (S:=fun z=>Below w.heap.size w z) (by kernel_rfl) (zai WB.out) (fun hHeld=>?_)
         refine rgT 0 ?_
         refine rgT 1 ?_
         refine rgT 2 ?_
         refine rgT 3 ?_
         refine rgK 4 (fun w' hSw=>HC1.out w' hSw) ?_
         refine rgT 5 ?_
         refine rgT 6 ?_
         refine rgK 7 (fun w' hSw=>HE1.out w' hSw) ?_
         refine rgT 8 ?_
         refine rgT 9 ?_
         refine rgT 10 ?_
         refine rgT 11 ?_
         refine rgK 12 (fun w' hSw=>HD1.out w' hSw) ?_
         refine rgT 13 ?_
         refine rgT 14 ?_
         refine rgK 15 (fun w' hSw=>HF1.out w' hSw) ?_
         refine rgT 16 ?_
         refine wpAnyH_done (by kernel_rfl) ?_ _
         go_wp2_with fail
         go_roundw
         case rel=>exact ⟨j+1,by omega,by go_num,HNX.out,zai WB.out⟩
         case measure=>simp [intOf];omega
        ·have nuv:(u != v)=true:=by rw [bne_iff_ne];exact huv
         have HNO:=hide (decide_eq_false (zbc HXP.out HYP.out (fun e=>zbc HU.out HV.out huv (congrArg Sg.xs e))))
         clear huv
         go_wp2_with fail
         refine wp_region_held_drew (S:=fun z=>Below w.heap.size w z) (by kernel_rfl) (zai WB.out) (fun hHeld=>?_)
         refine rgT 0 ?_
         refine rgT 1 ?_
         refine rgT 2 ?_
         refine rgT 3 ?_
         refine rgK 4 (fun w' hSw=>HC1.out w' hSw) ?_
         refine rgT 5 ?_
         refine rgT 6 ?_
         refine rgK 7 (fun w' hSw=>HE1.out w' hSw) ?_
         refine rgT 8 ?_
         refine rgT 9 ?_
         refine rgT 10 ?_
         refine rgT 11 ?_
         refine rgK 12 (fun w' hSw=>HD1.out w' hSw) ?_
         refine rgT 13 ?_
         refine rgT 14 ?_
         refine rgK 15 (fun w' hSw=>HF1.out w' hSw) ?_
         refine rgT 16 ?_
         refine wpAnyH_done (by kernel_rfl) ?_ _
         go_wp2_with fail
         go_ret
         exact ⟨by rw [HNO.out];rfl,zai WB.out⟩
       ·have hjl:¬ ((j:Nat):Int)<(n2:Int):=by omega
        have HUV:Hid (us=vs):=hide (by
         have h1:=HEQ2.out
         rw [List.take_of_length_le (by rw [HUL.out];omega),List.take_of_length_le (by rw [HVL.out];omega)] at h1
         exact h1)
        have HNX:=hide (zb8 HEQ.out HXP.out HYP.out (by show (⟨st,us⟩:Sg)=⟨st,vs⟩;rw [HUV.out]))
        go_wp2_with fail
        go_roundw
        case rel=>exact ⟨k+1,by omega,by go_num,HNX.out,WB.out⟩
        case measure=>simp [intOf];omega
     ·have nnm:((n2:Int) != (m2:Int))=true:=by rw [bne_iff_ne];omega
      have HNO:=hide (decide_eq_false (zbc HXP.out HYP.out (fun e=>hnm2 (by have h1:us=vs:=congrArg Sg.xs e;rw [← HUL.out,← HVL.out,h1]))))
      clear hnm2
      go_wp2_with fail
      refine wp_region_held_drew (S:=fun z=>Below w.heap.size w z) (by kernel_rfl) (zai WB.out) (fun hHeld=>?_)
      refine rgT 0 ?_
      refine rgT 1 ?_
      refine rgT 2 ?_
      refine rgT 3 ?_
      refine rgK 4 (fun w' hSw=>HC0.out w' hSw) ?_
      refine rgT 5 ?_
      refine rgT 6 ?_
      refine rgT 7 ?_
      refine rgT 8 ?_
      refine rgK 9 (fun w' hSw=>HD0.out w' hSw) ?_
      refine rgT 10 ?_
      refine rgT 11 ?_
      refine rgT 12 ?_
      refine rgT 13 ?_
      refine rgT 14 ?_
      refine rgT 15 ?_
      refine rgK 16 (fun w' hSw=>HC1.out w' hSw) ?_
      refine rgT 17 ?_
      refine rgT 18 ?_
      refine rgT 19 ?_
      refine rgT 20 ?_
      refine rgT 21 ?_
      refine rgK 22 (fun w' hSw=>HD1.out w' hSw) ?_
      refine rgT 23 ?_
      refine rgT 24 ?_
      refine rgT 25 ?_
      refine wpAnyH_done (by kernel_rfl) ?_ _
      go_wp2_with fail
      go_ret
      exact ⟨by rw [HNO.out];rfl,zai WB.out⟩
    ·have HNO:=hide (decide_eq_false (zbc HXP.out HYP.out (fun e=>hst (congrArg Sg.set e))))
     have hsp:(st=true∧st'=false)∨(st=false∧st'=true):=by
      cases st <;> cases st'
      ·exact absurd rfl hst
      ·exact .inr ⟨rfl,rfl⟩
      ·exact .inl ⟨rfl,rfl⟩
      ·exact absurd rfl hst
     clear hst
     rcases hsp with ⟨rfl,rfl⟩ | ⟨rfl,rfl⟩
     all_goals
      go_wp2_with fail
      refine wp_region_held_drew (S:=fun z=>Below w.heap.size w z) (by kernel_rfl) (zai WB.out) (fun hHeld=>?_)
      refine rgT 0 ?_
      refine rgT 1 ?_
      refine rgT 2 ?_
      refine rgT 3 ?_
      refine rgK 4 (fun w' hSw=>HC0.out w' hSw) ?_
      refine rgT 5 ?_
      refine rgT 6 ?_
      refine rgT 7 ?_
      refine rgT 8 ?_
      refine rgK 9 (fun w' hSw=>HD0.out w' hSw) ?_
      refine rgT 10 ?_
      refine rgT 11 ?_
      refine rgS 12 ?_
      refine rgS 13 ?_
      refine rgS 14 ?_
      refine rgS 15 ?_
      refine rgS 16 ?_
      refine rgS 17 ?_
      refine rgS 18 ?_
      refine rgS 19 ?_
      refine rgS 20 ?_
      refine rgS 21 ?_
      refine rgS 22 ?_
      refine rgS 23 ?_
      refine rgS 24 ?_
      refine rgT 25 ?_
      refine wpAnyH_done (by kernel_rfl) ?_ _
      go_wp2_with fail
      go_ret
      exact ⟨by rw [HNO.out];rfl,zai WB.out⟩
   ·obtain rfl:k=n:=by omega
    have hkl:¬ ((k:Nat):Int)<(k:Int):=by omega
    have HF:Hid (decide (xs.map SgP.sg=ys.map SgP.sg)=true):=hide (decide_eq_true (by
     have:=HEQ.out
     rw [List.take_of_length_le (by rw [HLX.out];exact Nat.le_refl _),List.take_of_length_le (by rw [HLY.out];exact Nat.le_refl _)] at this
     exact this))
    go_wp2_with fail
    go_ret
    exact ⟨by rw [HF.out];rfl,WB.out⟩
 ·have hnn:((n:Int) != (m:Int))=true:=by
   rw [bne_iff_ne]
   omega
  have HF:=hide (decide_eq_false (zcs HLX.out HLY.out hnm))
  clear hnm
  go_enter Tryz.func37,Tryz.ntmps37
  go_wp2_with fail
  go_ret
  exact ⟨by rw [HF.out];rfl,Below.refl _ _⟩
theorem zhg (w:World):Calls Tryz.prog 17 #[] w fun e w'=>e = .returned (.agg (attC zdo))∧Below w.heap.size w w':=by
 have B1:Hid (Blk (w.alloc (.cells zAtt 30)) w.heap.size 30 zAtt):=hide (Blk.new w _ _)
 have W1:Hid (Below w.heap.size w (w.alloc (.cells zAtt 30))):=hide ((Below.refl _ _).alloc (Nat.le_refl _) _)
 go_enter Tryz.func17,Tryz.ntmps17
 go_wp2_with (refine zdH rfl (.tmp 0) (.tmp 1) rfl w.heap.size rfl rfl B1.out rfl ?_;intro w2 hb2 hg2;have N2:=hide hb2;have G2:=hide hg2;clear hb2 hg2;refine Hid.out ?_)
 refine hide ?_
 go_wp2
 refine zda (q:=0) rfl rfl N2.out rfl rfl ?_
 exact ⟨rfl,W1.out.grown G2.out W1.out.size (fun g hg=>by injection hg;omega)⟩
structure Sm9 (w z:World) (lo hi lo' hi':Nat) (p q:AtP) (b o b' o':Nat) (lx ly:List Value):Prop where
 s:Am2 w z lo hi lo' hi' p q
 x:z.rangeAt b o lx
 y:z.rangeAt b' o' ly
theorem Sm9.drew {w z:World} {lo hi lo' hi':Nat} {p q:AtP} {b o b' o':Nat} {lx ly:List Value} (h:Sm9 w z lo hi lo' hi' p q b o b' o' lx ly):Sm9 w z.drew lo hi lo' hi' p q b o b' o' lx ly :=
 ⟨⟨h.s.bp.drew,h.s.bq.drew,h.s.ap.drew,h.s.aq.drew,zai h.s.bl,h.s.hh,h.s.hh'⟩,h.x,h.y⟩
theorem Sm9.on {w z u:World} {lo hi lo' hi':Nat} {p q:AtP} {b o b' o':Nat} {lx ly:List Value} (h:Sm9 w z lo hi lo' hi' p q b o b' o' lx ly) (hb:Below z.heap.size z u) (h1:b<z.heap.size) (h2:b'<z.heap.size):Sm9 w u lo hi lo' hi' p q b o b' o' lx ly :=
 ⟨h.s.on hb,fun j v hv=>by rw [hb.cell (by exact h1)];exact h.x j v hv,fun j v hv=>by rw [hb.cell (by exact h2)];exact h.y j v hv⟩
set_option maxHeartbeats 16000000 in
theorem zhf (w:World) (lo hi lo' hi':Nat) (p q:AtP) (hp:zar w lo hi p) (hq:zar w lo' hi' q) (hh:hi≤w.heap.size) (hh':hi'≤w.heap.size) (hf:Fit9 p) (hf':Fit9 q) :
  Calls Tryz.prog 16 #[.agg (attC p),.agg (attC q)] w fun e w'=>e = .returned (.bool (zb3 p.ats q.ats))∧Below w.heap.size w w':=by
 have S0:=hide (Am2.start hp hq hh hh')
 have HOB:=hp.ob
 have HOB':=hq.ob
 have HF:=hide hf
 have HF':=hide hf'
 have hcn:=hf.cn
 have htn:=hf.tn
 have HLC:Hid (p.cl.length=p.cn∧q.cl.length=q.cn):=hide ⟨hp.cl.len,hq.cl.len⟩
 have HLT:Hid ((p.tl.map TnP.tun).length=p.tn∧(q.tl.map TnP.tun).length=q.tn):=hide ⟨by rw [List.length_map];exact hp.tl.len,by rw [List.length_map];exact hq.tl.len⟩
 have k0:=S0.out.pc (zl3 p)
 have k2:=S0.out.pc (zl1 p)
 have k3:=S0.out.pc (zl0 p)
 have k21:=S0.out.p21
 have k23:=S0.out.p23
 have j0:=S0.out.qc (zl3 q)
 have j2:=S0.out.qc (zl1 q)
 have j3:=S0.out.qc (zl0 q)
 have j21:=S0.out.q21
 have j23:=S0.out.q23
 clear hp hq hh hh' hf hf'
 by_cases h1:p.o=q.o
 ·have e1:(p.o != q.o)=false:=by rw [h1];simp
  have E1:=hide h1
  clear h1
  by_cases h2:p.med=q.med
  ·have e2:(p.med != q.med)=false:=by rw [h2];simp
   have E2:=hide h2
   clear h2
   by_cases h3:p.pref=q.pref
   ·have e3:(p.pref != q.pref)=false:=by rw [h3];simp
    have E3:=hide h3
    clear h3
    by_cases h4:p.os=q.os∧p.ob=q.ob
    ·have R4:Hid ((!decide (p.os=q.os∧p.ob=q.ob))=false):=hide (by rw [decide_eq_true h4];rfl)
     have E4:=hide h4
     clear h4
     by_cases h5:p.cn=q.cn
     ·have e5:((p.cn:Int) != (q.cn:Int))=false:=by rw [h5];simp
      have E5:=hide h5
      clear h5
      by_cases h6:p.tn=q.tn
      ·have e6:((p.tn:Int) != (q.tn:Int))=false:=by rw [h6];simp
       have E6:=hide h6
       clear h6
       go_enter Tryz.func16,Tryz.ntmps16
       go_wp2_with (first
        | ((with_reducible refine zag ?_ (.tmp 28) rfl w.heap.size rfl S0.out.bp HOB ?_);(· rfl))
        | ((with_reducible refine zag ?_ (.tmp 30) rfl (w.heap.size+1) rfl S0.out.bq HOB' ?_);(· rfl))
        | ((with_reducible refine zcS ?_ (.tmp 29) (.tmp 31) rfl rfl rfl HOB HOB' ?_);(· rfl);rw [R4.out]))
       go_loopw [5] (fun i wr=>∃ k:Nat,k≤p.cn∧i = .int .i64 k∧p.cl.take k=q.cl.take k∧Am2 w wr lo hi lo' hi' p q) (fun i _=>p.cn-(intOf i).toNat)
       case atStart=>exact ⟨0,Nat.zero_le _,rfl,rfl,S0.out⟩
       case round =>
        clear k0 k2 k3 k21 k23 j0 j2 j3 j21 j23 S0
        obtain ⟨k,hk,rfl,heq,hst⟩:=hrel
        have HEQ:=hide heq
        have ST:=hide hst
        have k21:=hst.p21
        have j21:=hst.q21
        clear heq hst
        by_cases hlt:k<p.cn
        ·have hkl:((k:Nat):Int)<(p.cn:Int):=by omega
         have hkl':((k:Nat):Int)<(q.cn:Int):=by have:=E5.out;omega
         obtain ⟨b,o,x,hA,_,hb2,hx,hat⟩:=ST.out.ap.cl.row.at_ (sz:=17) (fun y hy=>zeF (ST.out.ap.cl.sz y hy)) hlt
         obtain ⟨b',o',y,hB,_,hb2',hy,hat'⟩:=ST.out.aq.cl.row.at_ (sz:=17) (fun y hy=>zeF (ST.out.aq.cl.sz y hy)) (show k<q.cn by have:=E5.out;omega)
         have X16:Hid (x.2.length=16):=hide (ST.out.ap.cl.sz x (List.mem_of_getElem? hx))
         have Y16:Hid (y.2.length=16):=hide (ST.out.aq.cl.sz y (List.mem_of_getElem? hy))
         have SM:Hid (Sm9 w wr lo hi lo' hi' p q b (o+k*17) b' (o'+k*17) (adL x) (adL y)):=hide ⟨ST.out,hat,hat'⟩
         have hP:Hid (∀ z:World,Sm9 w z lo hi lo' hi' p q b (o+k*17) b' (o'+k*17) (adL x) (adL y)→z.cell? ⟨w.heap.size,21,none⟩=some (.slice (some ⟨b,o,none⟩) p.cn p.cc)):=hide (fun z hz=>by have h1:=hz.s.p21;rw [hA] at h1;exact h1)
         have hQ:Hid (∀ z:World,Sm9 w z lo hi lo' hi' p q b (o+k*17) b' (o'+k*17) (adL x) (adL y)→z.cell? ⟨w.heap.size+1,21,none⟩=some (.slice (some ⟨b',o',none⟩) q.cn q.cc)):=hide (fun z hz=>by have h1:=hz.s.q21;rw [hB] at h1;exact h1)
         have HX:=hide hx
         have HY:=hide hy
         clear hx hy hat hat' hA hB
         by_cases hxy:x=y
         ·have NXY:Hid ((!decide (x.1=y.1∧x.2=y.2))=false):=hide (by rw [hxy];simp)
          have HNX:=hide (zb8 HEQ.out HX.out HY.out hxy)
          clear hxy
          go_wp2_with fail
          refine wp_region_held_drew (S:=fun z=>Sm9 w z lo hi lo' hi' p q b (o+k*17) b' (o'+k*17) (adL x) (adL y)) (by kernel_rfl) SM.out.drew (fun hHeld=>?_)
          refine rgT 0 ?_
          refine rgK 1 (fun w' hSw=>hP.out w' hSw) ?_
          refine rgT 2 ?_
          refine rgT 3 ?_
          refine rgV 4 (.agg (zan x.1 x.2)) ?_ ?_
          ·(intro w' hSw;exact za1 (.tmp 62) rfl b (o+k*17) rfl hSw.x X16.out)
          refine rgT 5 ?_
          refine rgK 6 (fun w' hSw=>hQ.out w' hSw) ?_
          refine rgT 7 ?_
          refine rgT 8 ?_
          refine rgV 9 (.agg (zan y.1 y.2)) ?_ ?_
          ·(intro w' hSw;exact za1 (.tmp 67) rfl b' (o'+k*17) rfl hSw.y Y16.out)
          refine rgV 10 (.bool false) ?_ ?_
          ·(intro w' hSw;exact zdd (.tmp 63) (.tmp 68) rfl rfl rfl X16.out Y16.out NXY.out)
          refine wpAnyH_done (by kernel_rfl) ?_ _
          go_wp2_with fail
          go_roundw
          case rel=>exact ⟨k+1,by omega,by go_num,HNX.out,hHeld.s⟩
          case measure=>simp [intOf];omega
         ·have NXY:Hid ((!decide (x.1=y.1∧x.2=y.2))=true):=hide (by rw [decide_eq_false (fun e=>hxy (Prod.ext e.1 e.2))];rfl)
          have HNO:=hide (zcM (a:=p.ats) (b:=q.ats) (fun e=>zbc HX.out HY.out hxy (congrArg Ats.cl e)))
          clear hxy
          go_wp2_with fail
          refine wp_region_held_drew (S:=fun z=>Sm9 w z lo hi lo' hi' p q b (o+k*17) b' (o'+k*17) (adL x) (adL y)) (by kernel_rfl) SM.out.drew (fun hHeld=>?_)
          refine rgT 0 ?_
          refine rgK 1 (fun w' hSw=>hP.out w' hSw) ?_
          refine rgT 2 ?_
          refine rgT 3 ?_
          refine rgV 4 (.agg (zan x.1 x.2)) ?_ ?_
          ·(intro w' hSw;exact za1 (.tmp 62) rfl b (o+k*17) rfl hSw.x X16.out)
          refine rgT 5 ?_
          refine rgK 6 (fun w' hSw=>hQ.out w' hSw) ?_
          refine rgT 7 ?_
          refine rgT 8 ?_
          refine rgV 9 (.agg (zan y.1 y.2)) ?_ ?_
          ·(intro w' hSw;exact za1 (.tmp 67) rfl b' (o'+k*17) rfl hSw.y Y16.out)
          refine rgV 10 (.bool true) ?_ ?_
          ·(intro w' hSw;exact zdd (.tmp 63) (.tmp 68) rfl rfl rfl X16.out Y16.out NXY.out)
          refine wpAnyH_done (by kernel_rfl) ?_ _
          go_wp2_with fail
          go_ret
          exact ⟨by rw [HNO.out];rfl,hHeld.s.bl⟩
        ·have hkl:¬ ((k:Nat):Int)<(p.cn:Int):=by omega
         have ECL:Hid (p.cl=q.cl):=hide (by
          have h1:=HEQ.out
          rw [List.take_of_length_le (by rw [HLC.out.1];omega),List.take_of_length_le (by rw [HLC.out.2];have:=E5.out;omega)] at h1
          exact h1)
         have k23:=ST.out.p23
         have j23:=ST.out.q23
         clear HEQ
         go_wp2_with fail
         go_loopw [6] (fun i wr=>∃ k:Nat,k≤p.tn∧i = .int .i64 k∧(p.tl.map TnP.tun).take k=(q.tl.map TnP.tun).take k∧Am2 w wr lo hi lo' hi' p q) (fun i _=>p.tn-(intOf i).toNat)
         case atStart=>exact ⟨0,Nat.zero_le _,rfl,rfl,ST.out⟩
         case round =>
          clear k21 j21 k23 j23 ST hlt hkl hk
          obtain ⟨k,hk,rfl,heq,hst⟩:=hrel
          have HEQ:=hide heq
          have ST:=hide hst
          have k23:=hst.p23
          have j23:=hst.q23
          clear heq hst
          by_cases hlt:k<p.tn
          ·have hkl:((k:Nat):Int)<(p.tn:Int):=by omega
           have hkl':((k:Nat):Int)<(q.tn:Int):=by have:=E6.out;omega
           obtain ⟨b,o,x,hA,_,hb2,hx,hat⟩:=ST.out.ap.tl.row.at_ (sz:=21) (fun y hy=>zfQ (ST.out.ap.tl.sz y hy)) hlt
           obtain ⟨b',o',y,hB,_,hb2',hy,hat'⟩:=ST.out.aq.tl.row.at_ (sz:=21) (fun y hy=>zfQ (ST.out.aq.tl.sz y hy)) (show k<q.tn by have:=E6.out;omega)
           have X16:Hid (x.bs.length=16):=hide (ST.out.ap.tl.sz x (List.mem_of_getElem? hx))
           have Y16:Hid (y.bs.length=16):=hide (ST.out.aq.tl.sz y (List.mem_of_getElem? hy))
           have SM:Hid (Sm9 w wr lo hi lo' hi' p q b (o+k*21) b' (o'+k*21) (tnL x) (tnL y)):=hide ⟨ST.out,hat,hat'⟩
           have hP:Hid (∀ z:World,Sm9 w z lo hi lo' hi' p q b (o+k*21) b' (o'+k*21) (tnL x) (tnL y)→z.cell? ⟨w.heap.size,23,none⟩=some (.slice (some ⟨b,o,none⟩) p.tn p.tc)):=hide (fun z hz=>by have h1:=hz.s.p23;rw [hA] at h1;exact h1)
           have hQ:Hid (∀ z:World,Sm9 w z lo hi lo' hi' p q b (o+k*21) b' (o'+k*21) (tnL x) (tnL y)→z.cell? ⟨w.heap.size+1,23,none⟩=some (.slice (some ⟨b',o',none⟩) q.tn q.tc)):=hide (fun z hz=>by have h1:=hz.s.q23;rw [hB] at h1;exact h1)
           have MX:Hid (At wr.drew lo hi x.A x.n x.id):=hide (ST.out.ap.tl.mem x (List.mem_of_getElem? hx)).1.drew
           have MY:Hid (At wr.drew lo' hi' y.A y.n y.id):=hide (ST.out.aq.tl.mem y (List.mem_of_getElem? hy)).1.drew
           have HXP:Hid ((p.tl.map TnP.tun)[k]?=some x.tun):=hide (by rw [List.getElem?_map,hx];rfl)
           have HYP:Hid ((q.tl.map TnP.tun)[k]?=some y.tun):=hide (by rw [List.getElem?_map,hy];rfl)
           have hzb:b<wr.heap.size:=Nat.lt_of_lt_of_le hb2 ST.out.hx
           have hzb':b'<wr.heap.size:=Nat.lt_of_lt_of_le hb2' ST.out.hx'
           have HZ:Hid (hi≤wr.drew.heap.size∧hi'≤wr.drew.heap.size):=hide ⟨ST.out.hx,ST.out.hx'⟩
           obtain ⟨r,hr⟩:∃ r,eqT x.tun y.tun=r:=⟨_,rfl⟩
           have R:=hide hr
           clear hx hy hat hat' hA hB
           go_wp2_with fail
           refine wp_region_held_drew (S:=fun z=>Sm9 w z lo hi lo' hi' p q b (o+k*21) b' (o'+k*21) (tnL x) (tnL y)) (by kernel_rfl) SM.out.drew (fun hHeld=>?_)
           refine rgT 0 ?_
           refine rgK 1 (fun w' hSw=>hP.out w' hSw) ?_
           refine rgT 2 ?_
           refine rgT 3 ?_
           refine rgV 4 (.agg (tnC x)) ?_ ?_
           ·(intro w' hSw;exact ze6 (.tmp 80) rfl b (o+k*21) rfl hSw.x X16.out)
           refine rgT 5 ?_
           refine rgK 6 (fun w' hSw=>hQ.out w' hSw) ?_
           refine rgT 7 ?_
           refine rgT 8 ?_
           refine rgV 9 (.agg (tnC y)) ?_ ?_
           ·(intro w' hSw;exact ze6 (.tmp 85) rfl b' (o'+k*21) rfl hSw.y Y16.out)
           refine zae (i:=10) rfl (by kernel_rfl) (by rfl) (zkf wr.drew x.lf y.lf x.k y.k x.l y.l x.s y.s x.bs y.bs x.A y.A x.n y.n x.c y.c lo hi lo' hi' x.id y.id MX.out MY.out HZ.out.1 HZ.out.2 X16.out Y16.out) (fun w=>by kernel_rfl) ?_
           rintro e w2 ⟨he,hb2w⟩
           have he2:e = .returned (.bool r):=by rw [he,← hr];rfl
           clear he
           subst he2
           have SM2:=hide (SM.out.drew.on hb2w hzb hzb')
           clear hb2w hr
           refine ⟨_,rfl,SM2.out,fun hHeld=>?_⟩
           refine rgN ?_
           refine rgT 11 ?_
           refine wpAnyH_done (by kernel_rfl) ?_ _
           cases r
           ·have HNO:=hide (zcM (a:=p.ats) (b:=q.ats) (fun e=>zbc HXP.out HYP.out (fun e2=>by have h1:=(zrP x.tun y.tun).2 e2;rw [R.out] at h1;cases h1) (congrArg Ats.tn e)))
            go_wp2_with fail
            go_ret
            exact ⟨by rw [HNO.out];rfl,SM2.out.s.bl⟩
           ·have HNX:=hide (zb8 HEQ.out HXP.out HYP.out ((zrP x.tun y.tun).1 R.out))
            go_wp2_with fail
            go_roundw
            case rel=>exact ⟨k+1,by omega,by go_num,HNX.out,SM2.out.s⟩
            case measure=>simp [intOf];omega
          ·have hkl:¬ ((k:Nat):Int)<(p.tn:Int):=by omega
           have ETN:Hid (p.tl.map TnP.tun=q.tl.map TnP.tun):=hide (by
            have h1:=HEQ.out
            rw [List.take_of_length_le (by rw [HLT.out.1];omega),List.take_of_length_le (by rw [HLT.out.2];have:=E6.out;omega)] at h1
            exact h1)
           have k1:=ST.out.pc (zl2 p)
           have j1:=ST.out.qc (zl2 q)
           obtain ⟨r7,hr7⟩:∃ r,decide (p.path.map SgP.sg=q.path.map SgP.sg)=r:=⟨_,rfl⟩
           obtain ⟨r8,hr8⟩:∃ r,decide (p.ex=q.ex)=r:=⟨_,rfl⟩
           have R7:=hide hr7
           have R8:=hide hr8
           have HV:Hid (zb3 p.ats q.ats=(r7&&r8)):=hide (by
            show (decide (p.o=q.o)&&(decide (p.med=q.med)&&(decide (p.pref=q.pref)&&(decide (p.os=q.os∧p.ob=q.ob)&&(decide (p.path.map SgP.sg=q.path.map SgP.sg)&&(decide (p.cl=q.cl)&&(decide (p.ex=q.ex)&&decide (p.tl.map TnP.tun=q.tl.map TnP.tun))))))))=_
            rw [decide_eq_true E1.out,decide_eq_true E2.out,decide_eq_true E3.out,decide_eq_true E4.out,decide_eq_true ECL.out,decide_eq_true ETN.out,hr7,hr8]
            simp)
           clear hr7 hr8 HEQ
           cases r7
           all_goals
            go_wp2_with (first
             | (go_at_call 37;refine (zio _ lo hi lo' hi' p.pA q.pA p.pn q.pn p.pc q.pc p.path q.path ST.out.ap.path ST.out.aq.path ST.out.hx ST.out.hx' HF.out.pn HF.out.ps).mono ?_;rintro e w3 ⟨rfl,hb3⟩;rw [R7.out];have S3:=hide (ST.out.on hb3);have k22:=S3.out.p22;have j22:=S3.out.q22;clear hb3)
             | (go_at_call 38;refine (zoS _ lo hi lo' hi' p.eA q.eA p.en p.ec q.en q.ec p.ex q.ex S3.out.ap.ex S3.out.aq.ex S3.out.hx S3.out.hx' (Nat.le_trans HF.out.en (by decide)) (Nat.le_trans HF'.out.en (by decide))).mono ?_;rintro e w4 ⟨rfl,hb4⟩;rw [R8.out];have S4:=hide (S3.out.on hb4);clear hb4))
            go_ret
            first
             | exact ⟨by rw [HV.out];rfl,S4.out.bl⟩
             | exact ⟨by rw [HV.out];rfl,S3.out.bl⟩
      ·have e6:((p.tn:Int) != (q.tn:Int))=true:=by rw [bne_iff_ne];omega
       have HNO:=hide (zcM (a:=p.ats) (b:=q.ats) (fun e=>h6 (by rw [← HLT.out.1,← HLT.out.2];exact congrArg (fun a:Ats=>a.tn.length) e)))
       go_enter Tryz.func16,Tryz.ntmps16
       go_wp2_with (first
        | ((with_reducible refine zag ?_ (.tmp 28) rfl w.heap.size rfl S0.out.bp HOB ?_);(· rfl))
        | ((with_reducible refine zag ?_ (.tmp 30) rfl (w.heap.size+1) rfl S0.out.bq HOB' ?_);(· rfl))
        | ((with_reducible refine zcS ?_ (.tmp 29) (.tmp 31) rfl rfl rfl HOB HOB' ?_);(· rfl);rw [R4.out]))
       go_ret
       exact ⟨by rw [HNO.out];rfl,S0.out.bl⟩
     ·have e5:((p.cn:Int) != (q.cn:Int))=true:=by rw [bne_iff_ne];omega
      have HNO:=hide (zcM (a:=p.ats) (b:=q.ats) (fun e=>h5 (by rw [← HLC.out.1,← HLC.out.2];exact congrArg (fun a:Ats=>a.cl.length) e)))
      go_enter Tryz.func16,Tryz.ntmps16
      go_wp2_with (first
       | ((with_reducible refine zag ?_ (.tmp 28) rfl w.heap.size rfl S0.out.bp HOB ?_);(· rfl))
       | ((with_reducible refine zag ?_ (.tmp 30) rfl (w.heap.size+1) rfl S0.out.bq HOB' ?_);(· rfl))
       | ((with_reducible refine zcS ?_ (.tmp 29) (.tmp 31) rfl rfl rfl HOB HOB' ?_);(· rfl);rw [R4.out]))
      go_ret
      exact ⟨by rw [HNO.out];rfl,S0.out.bl⟩
    ·have R4:Hid ((!decide (p.os=q.os∧p.ob=q.ob))=true):=hide (by rw [decide_eq_false h4];rfl)
     have HNO:=hide (zcM (a:=p.ats) (b:=q.ats) (fun e=>h4 ⟨congrArg Ats.os e,congrArg Ats.ob e⟩))
     go_enter Tryz.func16,Tryz.ntmps16
     go_wp2_with (first
      | ((with_reducible refine zag ?_ (.tmp 28) rfl w.heap.size rfl S0.out.bp HOB ?_);(· rfl))
      | ((with_reducible refine zag ?_ (.tmp 30) rfl (w.heap.size+1) rfl S0.out.bq HOB' ?_);(· rfl))
      | ((with_reducible refine zcS ?_ (.tmp 29) (.tmp 31) rfl rfl rfl HOB HOB' ?_);(· rfl);rw [R4.out]))
     go_ret
     exact ⟨by rw [HNO.out];rfl,S0.out.bl⟩
   ·have e3:(p.pref != q.pref)=true:=by rw [bne_iff_ne];exact h3
    have HNO:=hide (zcM (a:=p.ats) (b:=q.ats) (fun e=>h3 (congrArg Ats.pref e)))
    go_enter Tryz.func16,Tryz.ntmps16
    go_wp2_with fail
    go_ret
    exact ⟨by rw [HNO.out];rfl,S0.out.bl⟩
  ·have e2:(p.med != q.med)=true:=by rw [bne_iff_ne];exact h2
   have HNO:=hide (zcM (a:=p.ats) (b:=q.ats) (fun e=>h2 (congrArg Ats.med e)))
   go_enter Tryz.func16,Tryz.ntmps16
   go_wp2_with fail
   go_ret
   exact ⟨by rw [HNO.out];rfl,S0.out.bl⟩
 ·have e1:(p.o != q.o)=true:=by rw [bne_iff_ne];exact h1
  have HNO:=hide (zcM (a:=p.ats) (b:=q.ats) (fun e=>h1 (congrArg Ats.o e)))
  go_enter Tryz.func16,Tryz.ntmps16
  go_wp2_with fail
  go_ret
  exact ⟨by rw [HNO.out];rfl,S0.out.bl⟩
end
section
open Go.RowKit
theorem zkZ (b:List UInt8):zab b (b.length:Nat)=b:=by
 unfold zab zbJ
 rw [if_pos (by simp)]
 simp
def zeZ (s f:Int):Bool:=decide (s=4∨s=16)&&decide (f=5∨f=128)
def numN (s:Int):Int:=if s=4 then 1 else if s=16 then 2 else 0
def szN (n:Int):Int:=if n=1 then 4 else if n=2 then 16 else 0
def famC (f:Int × Int):Array Value:=#[.int .i64 f.1,.int .i64 f.2]
theorem ziH (w:World) (s:Int):Calls Tryz.prog 75 #[.int .i64 s] w fun e w'=>e = .returned (.int .u8 (numN s))∧w=w':=by
 unfold numN
 by_cases h1:s=4
 ·rw [if_pos h1]
  go_enter Tryz.func75,Tryz.ntmps75
  go_wp2
  go_ret
  exact ⟨rfl,rfl⟩
 ·rw [if_neg h1]
  by_cases h2:s=16
  all_goals
   first | rw [if_pos h2] | rw [if_neg h2]
   go_enter Tryz.func75,Tryz.ntmps75
   go_wp2
   go_ret
   exact ⟨rfl,rfl⟩
theorem zrB (w:World) (n:Int):Calls Tryz.prog 142 #[.int .i64 n] w fun e w'=>e = .returned (.int .i64 (szN n))∧w=w':=by
 unfold szN
 by_cases h1:n=1
 ·rw [if_pos h1]
  go_enter Tryz.func142,Tryz.ntmps142
  go_wp2
  go_ret
  exact ⟨rfl,rfl⟩
 ·rw [if_neg h1]
  by_cases h2:n=2
  all_goals
   first | rw [if_pos h2] | rw [if_neg h2]
   go_enter Tryz.func142,Tryz.ntmps142
   go_wp2
   go_ret
   exact ⟨rfl,rfl⟩
theorem zpv (w:World) (f:Int × Int):Calls Tryz.prog 132 #[.agg (famC f)] w fun e w'=>e = .returned (.bool (zeZ f.1 f.2))∧Below w.heap.size w w':=by
 have HB:=hide (Blk.new w 185 (famC f))
 obtain ⟨s,f⟩:=f
 have c0:(w.alloc (.cells (famC (s,f)) 185)).cell? ⟨w.heap.size,0,none⟩=some (.int .i64 s):=HB.out.cell 0
 have c1:(w.alloc (.cells (famC (s,f)) 185)).cell? ⟨w.heap.size,1,none⟩=some (.int .i64 f):=HB.out.cell 1
 have W0:=hide ((Below.refl w.heap.size w).alloc (Nat.le_refl _) (.cells (famC (s,f)) 185))
 clear HB
 show Calls _ _ _ _ fun e w'=>e = .returned (.bool (decide (s=4∨s=16)&&decide (f=5∨f=128)))∧_
 have HN:=hide (ziH (w.alloc (.cells (famC (s,f)) 185)) s)
 have hk:(numN s=0∧decide (s=4∨s=16)=false)∨(numN s=1∧decide (s=4∨s=16)=true)∨(numN s=2∧decide (s=4∨s=16)=true):=by
  unfold numN
  by_cases h1:s=4
  ·simp [h1]
  ·by_cases h2:s=16 <;> simp [h1,h2]
 by_cases h5:f=5∨f=128
 ·rw [decide_eq_true h5]
  rcases hk with ⟨hn,hk⟩ | ⟨hn,hk⟩ | ⟨hn,hk⟩ <;> rcases h5 with rfl | rfl
  all_goals
   rw [hk]
   rw [hn] at HN
   clear hn hk
   go_enter Tryz.func132,Tryz.ntmps132
   go_wp2_with fail
   refine HN.out.mono ?_
   rintro e w1 ⟨rfl,rfl⟩
   go_wp2
   go_ret
   exact ⟨rfl,W0.out⟩
 ·rw [decide_eq_false h5]
  have g5:(f==5)=false:=beq_eq_false_iff_ne.2 (fun e=>h5 (.inl e))
  have g6:(f==128)=false:=beq_eq_false_iff_ne.2 (fun e=>h5 (.inr e))
  rcases hk with ⟨hn,hk⟩ | ⟨hn,hk⟩ | ⟨hn,hk⟩
  all_goals
   rw [hk]
   rw [hn] at HN
   clear hn hk h5
   go_enter Tryz.func132,Tryz.ntmps132
   go_wp2_with fail
   refine HN.out.mono ?_
   rintro e w1 ⟨rfl,rfl⟩
   go_wp2
   go_ret
   exact ⟨rfl,W0.out⟩
end
section
open Go.RowKit
theorem zgW {w:World} {g o:Nat} {t:TypeId} {m m':Mr} {p q r vs:List Value} (h:Blk w g t (mroC m)) (h1:mroL m=p++(q++r)) (h2:mroL m'=p++(vs++r)) (hp:p.length=o) (hq:q.length=vs.length) :
  Blk (w.setCells g o vs) g t (mroC m'):=by
 subst hp
 unfold mroC at h ⊢
 rw [h1] at h
 rw [h2]
 exact zcP vs q p w hq h
theorem zrm {w:World} {g:Nat} {t:TypeId} {m:Mr} (h:Blk w g t (mroC m)) (hm:m.W) (x:Int):Blk (w.setCell ⟨g,9,none⟩ (.int .i64 x)) g t (mroC { m with a:=x }) :=
 zgW (p:=[.int .i64 m.k]++bvs m.rd) (q:=[.int .i64 m.a]) (vs:=[.int .i64 x]) h (by simp only [mroL,List.append_assoc];rfl) (by simp only [mroL,List.append_assoc]) (by simp [bvs,hm.rd]) rfl
theorem zri {w:World} {g:Nat} {t:TypeId} {m:Mr} (h:Blk w g t (mroC m)) (hm:m.W) (s:Int) {bs:List UInt8} (hl:bs.length=16):Blk (w.setCells g 10 (.int .i64 s::bvs bs)) g t (mroC { m with ss:=s,sb:=bs }) :=
 zgW (p:=[.int .i64 m.k]++(bvs m.rd++[.int .i64 m.a])) (q:=.int .i64 m.ss::bvs m.sb) h (by simp only [mroL,List.append_assoc];rfl) (by simp only [mroL,List.append_assoc]) (by simp [bvs,hm.rd]) (by simp [bvs,hm.sb,hl])
theorem zrk {w:World} {g:Nat} {t:TypeId} {m:Mr} (h:Blk w g t (mroC m)) (hm:m.W) (s:Int) {bs:List UInt8} (hl:bs.length=16):Blk (w.setCells g 27 (.int .i64 s::bvs bs)) g t (mroC { m with gs:=s,gb:=bs }) :=
 zgW (p:=[.int .i64 m.k]++(bvs m.rd++([.int .i64 m.a]++(.int .i64 m.ss::bvs m.sb)))) (q:=.int .i64 m.gs::bvs m.gb) h (by simp only [mroL,List.append_assoc];rfl) (by simp only [mroL,List.append_assoc]) (by simp [bvs,hm.rd,hm.sb]) (by simp [bvs,hm.gb,hl])
theorem zrl {w:World} {g:Nat} {t:TypeId} {m:Mr} (h:Blk w g t (mroC m)) (hm:m.W) (s:Int) {bs:List UInt8} (hl:bs.length=16):Blk (w.setCells g 44 (.int .i64 s::bvs bs)) g t (mroC { m with fs:=s,fb:=bs }) :=
 zgW (p:=[.int .i64 m.k]++(bvs m.rd++([.int .i64 m.a]++((.int .i64 m.ss::bvs m.sb)++(.int .i64 m.gs::bvs m.gb))))) (q:=.int .i64 m.fs::bvs m.fb) h (by simp only [mroL,List.append_assoc];rfl) (by simp only [mroL,List.append_assoc]) (by simp [bvs,hm.rd,hm.sb,hm.gb]) (by simp [bvs,hm.fb,hl])
theorem zrj {w:World} {g:Nat} {t:TypeId} {m:Mr} (h:Blk w g t (mroC m)) (hm:m.W) (x:List UInt8):Blk (w.setCell ⟨g,61,none⟩ (.string ⟨x.toArray⟩)) g t (mroC { m with key:=x }) :=
 zgW (p:=[.int .i64 m.k]++(bvs m.rd++([.int .i64 m.a]++((.int .i64 m.ss::bvs m.sb)++((.int .i64 m.gs::bvs m.gb)++(.int .i64 m.fs::bvs m.fb)))))) (q:=[.string ⟨m.key.toArray⟩]) (r:=[]) (vs:=[.string ⟨x.toArray⟩]) h (by simp only [mroL,List.append_assoc,List.append_nil]) (by simp only [mroL,List.append_assoc,List.append_nil]) (by simp [bvs,hm.rd,hm.sb,hm.gb,hm.fb]) rfl
theorem zgm {w:World} {g:Nat} {t:TypeId} {m:Mr} (h:Blk w g t (mroC m)) (hm:m.W) {o n:Nat} (ho:o+n≤62):w.there g o n:=fun j hj=>by
 refine ⟨?_,h.frozen _⟩
 rw [h.cell]
 have:=zbk hm
 simp [this]
 omega
theorem zlO {o:Oper} {a:Act} {w:World} (d s:Operand) (ho:o.op = .call { callee:=.builtin .copy,args:=#[d,s],argTypes:=#[36,36] })
  {g n c lo hi:Nat} {A:Option Addr} {bs:List UInt8} {t:TypeId} {m:Mr} (hd:a.eval d = .slice (some ⟨g,1,none⟩) 8 8) (hs:a.eval s = .slice A n c) (h:Blk w g t (mroC m)) (hm:m.W) (hz:m.rd=zdf) (hr:At w lo hi A n bs) :
  ∃ v w',(execOp a.eval o).run Tryz.prog w = .ok (.value v) w'∧Blk w' g t (mroC { m with rd:=pad8 bs })∧w.grownBy w' (some g):=by
 have hl:=hr.len
 have hsz:(Tryz.prog.info? 5).map (·.size)=some 1:=by kernel_rfl
 have fin:∀ {v:Value} {w':World},(Builtin.copy_ #[36,36] o.type #[.slice (some ⟨g,1,none⟩) 8 8,.slice A n c]).run Tryz.prog w = .ok v w'→(execOp a.eval o).run Tryz.prog w = .ok (.value v) w':=fun hrun=>by
  unfold execOp
  simp only [ho,resolve,invoke,builtin,Sem.run_bind,Sem.run_pure,Result.andThen_ok,List.map_toArray,List.map_cons,List.map_nil,hd,hs,hrun]
 rcases Nat.eq_zero_or_pos n with h0 | h0
 ·subst h0
  have:bs=[]:=List.eq_nil_of_length_eq_zero hl
  subst this
  refine ⟨_,_,fin (run_copy_none (P:=Tryz.prog) w _ _ _ 5 _ A 8 8 0 c Tryz.underlying36 hsz (by simp)),?_,zac w _⟩
  have e:pad8 []=m.rd:=by rw [hz];rfl
  rw [e]
  exact h
 ·obtain ⟨ad,rfl,hc⟩:=hr.cells h0
  have ht:((bvs bs).take 8).length=Nat.min n 8:=by rw [List.length_take,za9,hl,Nat.min_comm]
  have ht8:((bvs bs).take 8).length≤8:=by rw [List.length_take];omega
  have hth:=zgm h hm (o:=1) (n:=8) (by omega)
  refine ⟨_,_,fin (run_copy_cells (P:=Tryz.prog) w _ _ _ 5 g 1 8 8 ad n c ((bvs bs).take 8) Tryz.underlying36 hsz ht (fun j v hv=>hc j v (by
    rw [List.getElem?_take] at hv
    split at hv
    ·exact hv
    ·cases hv))
   (fun j hj=>(hth j (by omega)).1) (fun j hj=>(hth j (by omega)).2) (fun v hv=>zb1 bs v (List.mem_of_mem_take hv))),?_,zaq _ _ _ _ (zac w _)⟩
  refine zgW (p:=[.int .i64 m.k]) (q:=(bvs zdf).take (min n 8)) (r:=(bvs zdf).drop (min n 8)++([.int .i64 m.a]++((.int .i64 m.ss::bvs m.sb)++((.int .i64 m.gs::bvs m.gb)++((.int .i64 m.fs::bvs m.fb)++[.string ⟨m.key.toArray⟩]))))) h ?_ ?_ rfl ?_
  ·unfold mroL
   rw [hz,← List.append_assoc ((bvs zdf).take _),List.take_append_drop]
  ·unfold mroL
   simp only
   rw [← ziu bs,hl,List.append_assoc]
  ·rw [ht,List.length_take,za9]
   simp [zdf]
end
end Go.Proofs.YtookpplebikfnaaGreatDoor
