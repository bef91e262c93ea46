/-
  What Bytes and Same of the document's layer 4 do, in whatever memory. No condition beyond sizes that fit memory.
  What parts, read and Same of package pmsi do, in whatever memory. No condition beyond sizes that fit memory.
  What read of package pmsi does, in whatever memory. No condition beyond sizes that fit memory.
  What bytes.Equal, and Same and Parse of package pmsi, do, in whatever memory. No condition beyond sizes that fit memory.
  What Same and Equal of the document's own answer for layer 6 do, in whatever memory. No condition.
-/
import Derived.Test.YtookpplebikfnaaGreatDoorKSAJ
import Derived.Test.YtookpplebikfnaaGreatDoorKSAO
set_option linter.unusedVariables false
set_option linter.unusedSimpArgs false
namespace Go.Proofs.YtookpplebikfnaaGreatDoor
section
open Go.RowKit
theorem AtE.get9 {w:World} {lo hi n:Nat} {b o:Nat} {xs:List B8} (h:AtE w lo hi (some ⟨b,o,none⟩) n xs) {k:Nat} {x:B8} (hx:xs[k]?=some x):At w lo hi (some ⟨b,o+k*8,none⟩) 8 x.1:=by
 have hk:k<n:=by have:=(List.getElem?_eq_some_iff.1 hx).1;rw [h.len] at this;exact this
 obtain ⟨b',o',y,hA,_,_,hy,ha⟩:=h.at_ hk
 injection hA with hA
 injection hA with h1 h2
 subst h1 h2
 rw [hx] at hy
 injection hy with hy
 subst hy
 exact ha
theorem zj3 {xs ys:List B8} {k:Nat} {x:B8} (h:xs.take k=ys.take k) (hx:xs[k]?=some x) (hy:ys[k]?=some x):xs.take (k+1)=ys.take (k+1):=by
 rw [List.take_add_one,List.take_add_one,h,hx,hy]
set_option maxRecDepth 20000 in
set_option maxHeartbeats 2000000 in
theorem zoS (w:World) (lo hi lo' hi':Nat) (A A':Option Addr) (n c n' c':Nat) (xs ys:List B8) (h:AtE w lo hi A n xs) (h':AtE w lo' hi' A' n' ys) (hh:hi≤w.heap.size) (hh':hi'≤w.heap.size) (hn:n≤20000000000000) (hn':n'≤20000000000000) :
  Calls Tryz.prog 38 #[.slice A n c,.slice A' n' c'] w fun e w'=>e = .returned (.bool (decide (xs=ys)))∧Below w.heap.size w w':=by
 have H:=hide h
 have H':=hide h'
 have hxl:=h.len
 have hyl:=h'.len
 clear h h'
 by_cases hlen:n=n'
 ·subst hlen
  go_enter Tryz.func38,Tryz.ntmps38
  go_wp2_with fail
  go_loopg [5] n (fun gg s5 wr=>∃ k:Nat,s5 = .int .i64 k∧k≤n∧n-k≤gg∧Below w.heap.size w wr∧xs.take k=ys.take k)
  case atStart=>exact ⟨0,rfl,Nat.zero_le _,by omega,Below.refl _ _,rfl⟩
  case round =>
   obtain ⟨k,rfl,hk,hg,hbel,heq⟩:=hrel
   have WB:=hide hbel
   have HE:=hide heq
   clear hbel heq
   by_cases hlt:k<n
   ·have Hr:=hide (H.out.keep (w':=wr) fun p _ hp=>WB.out.cell (p:=p) (by omega))
    have Hr':=hide (H'.out.keep (w':=wr) fun p _ hp=>WB.out.cell (p:=p) (by omega))
    obtain ⟨b,o,x,rfl,_,_,hx,_⟩:=Hr.out.at_ hlt
    obtain ⟨b',o',y,rfl,_,_,hy,_⟩:=Hr'.out.at_ hlt
    have HX:=hide hx
    have HY:=hide hy
    clear hx hy
    by_cases hxy:x=y
    ·subst hxy
     have HQ:(!(x.1==x.1))=false:=by simp
     go_wp2_with fail
     refine wp_region_held_drew (S:=fun u=>AtE u lo hi (some ⟨b,o,none⟩) n xs∧AtE u lo' hi' (some ⟨b',o',none⟩) n ys) (by kernel_rfl) ⟨Hr.out,Hr'.out⟩ (fun hHeld=>?_)
     refine rgT 0 ?_
     refine rgT 1 ?_
     refine rgT 2 ?_
     refine rgV 3 (.agg (rdC x.1)) ?_ ?_
     ·(intro w' hSw;exact zbq (.tmp 19) rfl rfl (AtE.get9 hSw.1 HX.out))
     refine rgT 4 ?_
     refine rgT 5 ?_
     refine rgT 6 ?_
     refine rgV 7 (.agg (rdC x.1)) ?_ ?_
     ·(intro w' hSw;exact zbq (.tmp 23) rfl rfl (AtE.get9 hSw.2 HY.out))
     refine rgV 8 (.bool false) ?_ ?_
     ·(intro w' hSw;exact zdt (.tmp 20) (.tmp 24) rfl rfl rfl x.2 x.2 HQ)
     refine wpAnyH_done (by kernel_rfl) ?_ _
     go_wp2
     go_roundg (n-(k+1))
     case measure=>omega
     case rel=>exact ⟨k+1,by go_num,by omega,Nat.le_refl _,zai WB.out,zj3 HE.out HX.out HY.out⟩
    ·have HQ:(!(x.1==y.1))=true:=by
      have:x.1≠y.1:=fun e=>hxy (Subtype.ext e)
      simpa using this
     have HV:Hid (decide (xs=ys)=false):=hide (decide_eq_false fun e=>by
      have h1:=HX.out
      rw [e,HY.out] at h1
      injection h1 with h1
      exact hxy h1.symm)
     go_wp2_with fail
     refine wp_region_held_drew (S:=fun u=>AtE u lo hi (some ⟨b,o,none⟩) n xs∧AtE u lo' hi' (some ⟨b',o',none⟩) n ys) (by kernel_rfl) ⟨Hr.out,Hr'.out⟩ (fun hHeld=>?_)
     refine rgT 0 ?_
     refine rgT 1 ?_
     refine rgT 2 ?_
     refine rgV 3 (.agg (rdC x.1)) ?_ ?_
     ·(intro w' hSw;exact zbq (.tmp 19) rfl rfl (AtE.get9 hSw.1 HX.out))
     refine rgT 4 ?_
     refine rgT 5 ?_
     refine rgT 6 ?_
     refine rgV 7 (.agg (rdC y.1)) ?_ ?_
     ·(intro w' hSw;exact zbq (.tmp 23) rfl rfl (AtE.get9 hSw.2 HY.out))
     refine rgV 8 (.bool true) ?_ ?_
     ·(intro w' hSw;exact zdt (.tmp 20) (.tmp 24) rfl rfl rfl x.2 y.2 HQ)
     refine wpAnyH_done (by kernel_rfl) ?_ _
     go_wp2
     go_ret
     exact ⟨by rw [HV.out];rfl,zai WB.out⟩
   ·obtain rfl:k=n:=by omega
    have HV:Hid (decide (xs=ys)=true):=hide (decide_eq_true (by
     have:=HE.out
     rwa [List.take_of_length_le (by omega),List.take_of_length_le (by omega)] at this))
    go_wp2_with fail
    go_ret
    exact ⟨by rw [HV.out];rfl,WB.out⟩
 ·have HV:Hid (decide (xs=ys)=false):=hide (decide_eq_false fun e=>hlen (by rw [← hxl,← hyl,e]))
  have hne:((n:Int) != (n':Int))=true:=bne_iff_ne.2 (by omega)
  go_enter Tryz.func38,Tryz.ntmps38
  go_wp2_with fail
  go_ret
  exact ⟨by rw [HV.out];rfl,Below.refl _ _⟩
end
section
set_option maxRecDepth 20000
set_option maxHeartbeats 4000000
open Go.RowKit
theorem Rd.on {w x:World} {lo g:Nat} {bs:List UInt8} {bad:Bool} (h:Rd w lo g bs bad) (hb:Below w.heap.size w x):Rd x lo g bs bad:=h.below hb h.lt
theorem wf_len {bs:List UInt8} {w:World} {lo g:Nat} {bad:Bool} (h:Rd w lo g bs bad):(Lit.int .i64 ((bs.length:Nat):Int)).wf=true:=WalkArith.wf_i64 (by have:=h.len;omega)
theorem zuQ {bs:List UInt8} {w:World} {lo g:Nat} {bad:Bool} (h:Rd w lo g bs bad):(Lit.int .i64 ((bs.length/2:Nat):Int)).wf=true:=WalkArith.wf_i64 (by have:=h.len;omega)
theorem zdz (w:World) (lo g:Nat) (bs:List UInt8) (bad:Bool) (h:Rd w lo g bs bad) :
  Calls Tryz.prog 61 #[.pointer (some ⟨g,0,none⟩),.int .i64 ((bs.length:Nat):Int)] w fun e w'=>∃ v,e = .returned v∧w'.ownsRow w.heap.size 5 1 v bs.length (bvs bs) ∧
   (∃ bad',Rd w' lo g [] bad')∧w.grownBy w' (some g):=by
 refine (za0 w lo g bs bad h _ (wf_len h)).mono ?_
 rintro e w1 ⟨v,rfl,ho,hr,hg⟩
 obtain ⟨s1,s2⟩:=zsO bs
 rw [s1] at ho
 rw [s2] at hr
 exact ⟨v,rfl,ho,⟨_,hr⟩,hg⟩
theorem zpo {a b c:World} {row row':Option Nat} (h:a.grownBy b row) (k:b.grownBy c row') (hr:∀ q,row'=some q→a.heap.size≤q):a.grownBy c row :=
 ⟨k.os.trans h.os,k.tape.trans h.tape,k.output.trans h.output,Nat.le_trans h.size k.size,fun i hi hne=>(k.block i (Nat.lt_of_lt_of_le hi h.size) (fun e=>by have:=hr i e.symm;omega)).trans (h.block i hi hne)⟩
theorem zk5 (w:World) (lo g:Nat) (r:List UInt8) (bad:Bool) (h:Rd w lo g r bad) (hlo:lo≤g) (k:Nat) (hk:k<256) :
  Calls Tryz.prog 192 #[.pointer (some ⟨g,0,none⟩),.int .i64 (k:Int)] w fun e w'=>∃ u v,e = .returned (.tuple #[u,v])∧w'.ownsRow w.heap.size 5 1 u (zdh k r).1.length (bvs (zdh k r).1) ∧
   w'.ownsRow w.heap.size 5 1 v (zdh k r).2.length (bvs (zdh k r).2)∧w.grownBy w' (some g):=by
 obtain ⟨i0,hi0,hz0,hz1,hz2⟩:=info_parts zbz
 have HR:=hide h
 have hgl:=h.lt
 clear h
 by_cases h1:k=1
 ·subst h1
  have hp1:(zdh ((1:Nat):Int) r)=(zaf (zaf (zaf r 4) 2) 2,zab r 4++zab (zaf (zaf r 4) 2) 2):=rfl
  rw [hp1]
  clear hp1 hk
  go_enter Tryz.func192,Tryz.ntmps192
  go_wp2_with fail
  refine (za0 w lo g r bad HR.out 4 (by decide)).mono ?_
  rintro e w1 ⟨v1,rfl,ho1,hr1,hg1⟩
  obtain ⟨A1,c1,rfl,_,_⟩:=zad ho1
  have R1:=hide hr1
  have HO1:=hide ho1
  have hs1:=hg1.size
  clear hr1 ho1
  go_wp2_with fail
  refine (za0 w1 lo g _ _ R1.out 2 (by decide)).mono ?_
  rintro e w2 ⟨v2,rfl,ho2,hr2,hg2⟩
  obtain ⟨A2,c2,rfl,_,_⟩:=zad ho2
  have R2:=hide hr2
  have HO2:=hide ho2
  have hs2:=hg2.size
  clear hr2 ho2
  go_wp2_with fail
  refine (za0 w2 lo g _ _ R2.out 2 (by decide)).mono ?_
  rintro e w3 ⟨v3,rfl,ho3,hr3,hg3⟩
  obtain ⟨A3,c3,rfl,_,_⟩:=zad ho3
  have R3:=hide hr3
  have HO3:=hide ho3
  have hs3:=hg3.size
  clear hr3 ho3
  have hz12:w.heap.size≤w2.heap.size:=Nat.le_trans hs1 hs2
  have HO13:=hide (zdV (zdV HO1.out hg2 hgl) hg3 hgl)
  go_wp2_with (at_builtin;go_must (refine zah _ rfl (.tmp 20) (.tmp 22) _ rfl w.heap.size 5 i0 Tryz.underlying36 hi0 hz0 hz1 hz2 (.slice A1 (zab r 4).length c1) (zab r 4).length (zab r 4) rfl HO13.out w2.heap.size w3.heap.size A3 _ c3 _ rfl (At.own HO3.out) (by have h4:=zcT (bs:=r) (n:=4) (k:=4) (by decide);have h2:=zcT (bs:=zaf (zaf r 4) 2) (n:=2) (k:=2) (by decide);omega) (Nat.le_trans hz12 hs3) ?_);intro v4 w4 ho4 hg4 ha4)
  have hr4:∀ q,(Value.slice A1 (zab r 4).length c1).ownBlock=some q→w.heap.size≤q:=fun q hq=>(HO13.out.lt q hq).1
  have R4:=hide (R3.out.keep hg4 (fun q hq=>.inr (by have:=hr4 q hq;omega)))
  have G4:=hide (zpo (zal (zal hg1 hg2) hg3) hg4 hr4)
  have HO4:=hide ho4
  clear ho4 hg4 hr4 ha4
  go_wp2_with fail
  refine (R4.out.left).mono ?_
  rintro e wl ⟨rfl,rfl⟩
  go_wp2_with fail
  refine (zdz w4 lo g _ _ R4.out).mono ?_
  rintro e w5 ⟨v5,rfl,ho5,⟨bd5,hr5⟩,hg5⟩
  have R5:=hide hr5
  have HO5:=hide ho5
  clear hr5 ho5
  go_wp2
  go_ret2
  refine ⟨_,_,rfl,zau HO5.out G4.out.size,?_,zal G4.out hg5⟩
  rw [List.length_append]
  exact zdV HO4.out hg5 hgl
 by_cases h2:k=2∨k=7
 ·obtain ⟨m,hm⟩:∃ m:Nat,big (zab (zaf r 3) ((1:Nat):Int))=m:=⟨_,rfl⟩
  have hm256:m<256:=by
   have h1:=zfc (zab (zaf r 3) ((1:Nat):Int))
   have h2:=zcT (bs:=zaf r 3) (n:=((1:Nat):Int)) (k:=1) (Int.le_refl _)
   have h3:=Nat.pow_le_pow_right (n:=256) (by decide) h2
   omega
  have hp1:zdh (k:Int) r=(zab (zaf (zaf r 3) ((1:Nat):Int)) (m:Int),zaf (zaf (zaf (zaf r 3) ((1:Nat):Int)) (m:Int)) 2):=by
   rw [← hm]
   rcases h2 with rfl | rfl <;> rfl
  rw [hp1]
  have HM:=hide hm
  have HMW:Hid ((Lit.int .i64 (m:Int)).wf=true):=hide (WalkArith.wf_i64 (by omega))
  clear hp1 hk hm hm256
  rcases h2 with rfl | rfl
  all_goals
   go_enter Tryz.func192,Tryz.ntmps192
   go_wp2_with fail
   refine (za0 w lo g r bad HR.out 3 (by decide)).mono ?_
   rintro e w1 ⟨v1,rfl,ho1,hr1,hg1⟩
   obtain ⟨A1,c1,rfl,_,_⟩:=zad ho1
   have R1:=hide hr1
   have HO1:=hide ho1
   have hs1:=hg1.size
   clear hr1 ho1
   go_wp2_with fail
   refine (zix w1 lo g (zaf r 3) _ R1.out 1 (by decide) (by decide)).mono ?_
   rw [HM.out]
   rintro e w2 ⟨rfl,hr2,hg2⟩
   have R2:=hide hr2
   have hs2:=hg2.size
   clear hr2
   go_wp2_with fail
   refine (za0 w2 lo g _ _ R2.out (m:Int) HMW.out).mono ?_
   rintro e w3 ⟨v3,rfl,ho3,hr3,hg3⟩
   obtain ⟨A3,c3,rfl,_,_⟩:=zad ho3
   have R3:=hide hr3
   have HO3:=hide ho3
   have hs3:=hg3.size
   clear hr3 ho3
   go_wp2_with fail
   refine (za0 w3 lo g _ _ R3.out 2 (by decide)).mono ?_
   rintro e w4 ⟨v4,rfl,ho4,hr4,hg4⟩
   obtain ⟨A4,c4,rfl,_,_⟩:=zad ho4
   have R4:=hide hr4
   have HO4:=hide ho4
   have hs4:=hg4.size
   clear hr4 ho4
   go_wp2_with fail
   refine (R4.out.left).mono ?_
   rintro e wl ⟨rfl,rfl⟩
   go_wp2_with fail
   refine (zdz w4 lo g _ _ R4.out).mono ?_
   rintro e w5 ⟨v5,rfl,ho5,⟨bd5,hr5⟩,hg5⟩
   have R5:=hide hr5
   have HO5:=hide ho5
   clear hr5 ho5
   have hz2:w.heap.size≤w2.heap.size:=Nat.le_trans hs1 hs2
   go_wp2
   go_ret2
   exact ⟨_,_,rfl,zdV (zdV (zau HO3.out hz2) hg4 hgl) hg5 hgl,zau HO5.out (Nat.le_trans hz2 (Nat.le_trans hs3 hs4)),zal (zal (zal (zal hg1 hg2) hg3) hg4) hg5⟩
 by_cases h3:k=3∨k=4∨k=5
 ·have hp1:zdh (k:Int) r=(zab r ((r.length/2:Nat):Int),zaf r ((r.length/2:Nat):Int)):=by rcases h3 with rfl | rfl | rfl <;> rfl
  rw [hp1]
  have HW:=hide (zuQ HR.out)
  clear hp1 hk
  rcases h3 with rfl | rfl | rfl
  all_goals
   go_enter Tryz.func192,Tryz.ntmps192
   go_wp2_with fail
   refine (HR.out.left).mono ?_
   rintro e wl ⟨rfl,rfl⟩
   have hle:=HR.out.len
   have hq:wrap64 ((r.length:Int)/2)=((r.length/2:Nat):Int):=by unfold wrap64;omega
   have HQ:=hide hq
   clear hq hle
   go_wp2_with fail
   rw [HQ.out]
   refine (za0 w lo g r bad HR.out _ HW.out).mono ?_
   rintro e w1 ⟨v1,rfl,ho1,hr1,hg1⟩
   have R1:=hide hr1
   have HO1:=hide ho1
   clear hr1 ho1
   go_wp2_with fail
   refine (R1.out.left).mono ?_
   rintro e wl ⟨rfl,rfl⟩
   go_wp2_with fail
   refine (zdz w1 lo g _ _ R1.out).mono ?_
   rintro e w2 ⟨v2,rfl,ho2,⟨bd2,hr2⟩,hg2⟩
   have R2:=hide hr2
   have HO2:=hide ho2
   clear hr2 ho2
   go_wp2
   go_ret2
   exact ⟨_,_,rfl,zdV HO1.out hg2 hgl,zau HO2.out hg1.size,zal hg1 hg2⟩
 have hp1:zdh (k:Int) r=(r,[]):=by
  unfold zdh
  rw [if_neg (by omega),if_neg (by omega),if_neg (by omega)]
 rw [hp1]
 clear hp1 hk
 have e1:((k:Int)==1)=false:=beq_eq_false_iff_ne.2 (by omega)
 have e2:((k:Int)==2)=false:=beq_eq_false_iff_ne.2 (by omega)
 have e7:((k:Int)==7)=false:=beq_eq_false_iff_ne.2 (by omega)
 have e3:((k:Int)==3)=false:=beq_eq_false_iff_ne.2 (by omega)
 have e4:((k:Int)==4)=false:=beq_eq_false_iff_ne.2 (by omega)
 have e5:((k:Int)==5)=false:=beq_eq_false_iff_ne.2 (by omega)
 clear h1 h2 h3
 ·go_enter Tryz.func192,Tryz.ntmps192
  go_wp2_with fail
  refine (HR.out.left).mono ?_
  rintro e wl ⟨rfl,rfl⟩
  go_wp2_with fail
  refine (zdz w lo g _ _ HR.out).mono ?_
  rintro e w1 ⟨v1,rfl,ho1,⟨bd1,hr1⟩,hg1⟩
  have R1:=hide hr1
  have HO1:=hide ho1
  clear hr1 ho1
  go_wp2_with fail
  refine (R1.out.left).mono ?_
  rintro e wl ⟨rfl,rfl⟩
  go_wp2_with fail
  refine (zdz w1 lo g _ _ R1.out).mono ?_
  rintro e w2 ⟨v2,rfl,ho2,⟨bd2,hr2⟩,hg2⟩
  have R2:=hide hr2
  have HO2:=hide ho2
  clear hr2 ho2
  go_wp2
  go_ret2
  exact ⟨_,_,rfl,zdV HO1.out hg2 hgl,zau HO2.out hg1.size,zal hg1 hg2⟩
open Go.RowKit
theorem zeL {ops:Array Oper} {rest:List Oper} {o:Oper} {a:Act} {w:World} {Q:Exit→Act→World→Prop} (hgd:o.guard=none) (x0 x1 x2 x3 x4:Operand)
  (ho:o.op = .build 77 #[(0,x0),(1,x1),(2,x2),(3,x3),(4,x4)]) {lf:Bool} {k l s:Int} {bs:List UInt8} {A:Option Addr} {n c:Nat} (hl:bs.length=16)
  (h0:a.eval x0 = .bool lf) (h1:a.eval x1 = .int .i64 k) (h2:a.eval x2 = .int .i64 l) (h3:a.eval x3 = .agg (zan s bs)) (h4:a.eval x4 = .slice A n c)
  (hk:wpList Tryz.prog ops Q rest (a.put o.dst (.agg (tunC lf k l s bs (.slice A n c)))) w):wpList Tryz.prog ops Q (o::rest) a w :=
 wpList_buildTo hgd 77 #[(0,x0),(1,x1),(2,x2),(3,x3),(4,x4)] ho o.dst rfl _ (by simp only [List.map_toArray,List.map_cons,List.map_nil,h0,h1,h2,h3,h4];exact zr5 A n c hl) hk
theorem znK {fn:Func} {R:Ending→World→Prop} {a:Act} {w:World} {p:Tmp} {g:Nat} {t:TypeId} {lf:Bool} {k l s:Int} {bs:List UInt8} {v:Value} (hf:fn.results=#[.cell p 77])
  (hp:a.tmps.getD p undef = .pointer (some ⟨g,0,none⟩)) (h:Blk w g t (tunC lf k l s bs v)) (hl:bs.length=16) (hd:a.defers=[]) (hR:R (.returned (.agg (tunC lf k l s bs v))) w) :
  bodyPost Tryz.prog fn R .ret a w:=by
 refine bodyPost_ret (v:=.agg (tunC lf k l s bs v)) ?_ hd hR
 have hp':a.tmps[p]?.getD undef = .pointer (some ⟨g,0,none⟩):=by simpa using hp
 simp [results,hf,hp',asAddr,zkt h hl]
theorem zkd {fn:Func} {R:Ending→World→Prop} {a:Act} {w:World} {p q:Tmp} {g:Nat} {t:TypeId} {lf:Bool} {k l s:Int} {bs:List UInt8} {v u:Value} (hf:fn.results=#[.cell p 77,.tmp q])
  (hp:a.tmps.getD p undef = .pointer (some ⟨g,0,none⟩)) (hq:a.tmps.getD q undef=u) (h:Blk w g t (tunC lf k l s bs v)) (hl:bs.length=16) (hd:a.defers=[]) (hR:R (.returned (.tuple #[.agg (tunC lf k l s bs v),u])) w) :
  bodyPost Tryz.prog fn R .ret a w:=by
 refine bodyPost_ret (v:=.tuple #[.agg (tunC lf k l s bs v),u]) ?_ hd hR
 have hp':a.tmps[p]?.getD undef = .pointer (some ⟨g,0,none⟩):=by simpa using hp
 have hq':a.tmps[q]?.getD undef=u:=by simpa using hq
 simp [results,hf,hp',hq',asAddr,zkt h hl]
theorem zkm {w x:World} {B n:Nat} {e:TypeId} {v:Value} {l:List Value} (h:w.ownsRow B e 1 v n l) (o:Obj) (hg:(w.alloc o).grownBy x (some w.heap.size)):x.ownsRow B e 1 v n l:=by
 refine zmE (zaS h ((Below.refl _ _).alloc (Nat.le_refl _) o)) hg ?_
 cases hv:v.ownBlock with
 | none=>exact .inl rfl
 | some b =>
  refine .inr (fun e=>?_)
  injection e with e
  have:=(h.lt b hv).2
  omega
def zkW:Array Value:=tunC false 0 0 0 zax (.slice none 0 0)
theorem zq9 (bs:List UInt8):big (zab bs ((1:Nat):Int))<256:=by
 have h1:=zfc (zab bs ((1:Nat):Int))
 have h2:=zcT (bs:=bs) (n:=((1:Nat):Int)) (k:=1) (Int.le_refl _)
 have h3:=Nat.pow_le_pow_right (n:=256) (by decide) h2
 omega
theorem zqO (w:World) (lo hi:Nat) (A:Option Addr) (n c:Nat) (b:List UInt8) (hA:At w lo hi A n b) (hh:hi≤w.heap.size) (hn:n≤140737488355328) :
  Calls Tryz.prog 177 #[.slice A n c] w fun e w'=>∃ A' c',e = .returned (.agg (tunC (zfv b).leaf (zfv b).k (zfv b).l (zfv b).s (zfv b).bs (.slice A' (zfv b).id.length c'))) ∧
   w'.ownsRow w.heap.size 5 1 (.slice A' (zfv b).id.length c') (zfv b).id.length (bvs (zfv b).id)∧Below w.heap.size w w':=by
 have HT:Hid (zfv b=⟨zn2 b,zi7 b,numR b,ofS (zdh (zi7 b) (zmj b)).1,ofB (zdh (zi7 b) (zmj b)).1,(zdh (zi7 b) (zmj b)).2⟩):=hide rfl
 obtain ⟨T,hT⟩:∃ T,zfv b=T:=⟨_,rfl⟩
 rw [hT] at HT ⊢
 clear hT
 have HA:=hide (hA.alloc hh (.cells zkW 77))
 have HN:=hide (Blk.new w 77 zkW)
 have HZ:=hide zh1
 have W0:Hid (Below w.heap.size w (w.alloc (.cells zkW 77))):=hide ((Below.refl _ _).alloc (Nat.le_refl _) _)
 obtain ⟨m,hm⟩:∃ m:Nat,big (zab b ((1:Nat):Int))=m:=⟨_,rfl⟩
 obtain ⟨k,hk⟩:∃ k:Nat,big (zab (zaf b ((1:Nat):Int)) ((1:Nat):Int))=k:=⟨_,rfl⟩
 have hk2:k<256:=by rw [← hk];exact zq9 _
 have HM:=hide hm
 have HK:=hide hk
 have HK2:=hide hk2
 have HLF:Hid (zn2 b=decide (m=1)):=hide (by unfold zn2;rw [← hm];rfl)
 have HKR:Hid (zi7 b=k):=hide (by unfold zi7;exact hk)
 have hz:hi≤(w.alloc (.cells zkW 77)).heap.size:=Nat.le_trans hh W0.out.size
 clear hm hk hk2 hA
 go_enter Tryz.func177,Tryz.ntmps177
 go_wp2_with fail
 refine (zbU _ lo hi A n c b HA.out hz hn).mono ?_
 rintro e w1 ⟨g,rfl,hg,hr1,hb1⟩
 have hgs:w.heap.size+1≤g:=by simpa using hg
 have R1:=hide hr1
 have B1:=hide hb1
 have hgl:=hr1.lt
 clear hr1 hb1 hg
 go_wp2_with fail
 refine (zix w1 _ g b false R1.out 1 (by decide) (by decide)).mono ?_
 rw [HM.out]
 rintro e w2 ⟨rfl,hr2,hg2⟩
 have R2:=hide hr2
 have HB2:=hide (B1.out.grown hg2 B1.out.size (fun q hq=>by injection hq with hq;subst hq;simpa using hgs))
 clear hr2 hg2
 go_wp2_with fail
 refine (zix w2 _ g _ _ R2.out 1 (by decide) (by decide)).mono ?_
 rw [HK.out]
 rintro e w3 ⟨rfl,hr3,hg3⟩
 have R3:=hide hr3
 have HB3:=hide (HB2.out.grown hg3 HB2.out.size (fun q hq=>by injection hq with hq;subst hq;simpa using hgs))
 clear hr3 hg3
 go_wp2_with fail
 refine (za0 w3 _ g _ _ R3.out 3 (by decide)).mono ?_
 rintro e w4 ⟨v4,rfl,ho4,hr4,hg4⟩
 obtain ⟨A4,c4,rfl,_,_⟩:=zad ho4
 have R4:=hide hr4
 have HO4:=hide ho4
 have HB4:=hide (HB3.out.grown hg4 HB3.out.size (fun q hq=>by injection hq with hq;subst hq;simpa using hgs))
 clear hr4 hg4 ho4
 go_wp2_with fail
 refine (znM w4 A4 _ c4 _ (At.own HO4.out) (Nat.le_refl _) (Nat.le_trans (zcT (k:=3) (by decide)) (by decide))).mono ?_
 rintro e w5 ⟨rfl,hb5⟩
 have R5:=hide (R4.out.on hb5)
 have HB5:=hide (zaa HB4.out hb5 (Nat.le_refl _))
 clear hb5
 go_wp2_with fail
 obtain ⟨P,hP⟩:∃ P,zdh (k:Int) (zmj b)=P:=⟨_,rfl⟩
 have HP:Hid (zdh (k:Int) (zaf (zaf (zaf b ((1:Nat):Int)) ((1:Nat):Int)) 3)=P):=hide hP
 have HT2:Hid (T=⟨decide (m=1),k,zdT (zab (zaf (zaf b ((1:Nat):Int)) ((1:Nat):Int)) 3),ofS P.1,ofB P.1,P.2⟩):=hide (by rw [HT.out,HKR.out,HLF.out,hP];rfl)
 clear hP HT
 refine (zk5 w5 _ g _ _ R5.out (by simpa using (show w.heap.size+1≤g from hgs)) k HK2.out).mono ?_
 rw [HP.out]
 rintro e w6 ⟨u6,v6,rfl,hu6,hv6,hg6⟩
 obtain ⟨A6,c6,rfl,_,_⟩:=zad hu6
 obtain ⟨D6,d6,rfl,_,_⟩:=zad hv6
 have HU6:=hide hu6
 have HV6:=hide hv6
 have HB6:=hide (HB5.out.grown hg6 HB5.out.size (fun q hq=>by injection hq with hq;subst hq;simpa using hgs))
 have hz6:=hide (Nat.le_trans W0.out.size HB5.out.size)
 clear hu6 hv6 hg6
 go_wp2_with fail
 refine (zhk w6 _ _ A6 P.1.length c6 P.1 (At.own HU6.out) (Nat.le_refl _)).mono ?_
 rintro e w7 ⟨rfl,hb7⟩
 have HB7:=hide (zaa HB6.out hb7 (Nat.le_refl _))
 have HV7:=hide (zaS HV6.out hb7)
 clear hb7
 have hs5:w.heap.size<w5.heap.size:=by have h:=HB5.out.size;simp at h;omega
 by_cases hm1:m=1
 ·skip
  have hT3:T=⟨true,k,zdT (zab (zaf (zaf b ((1:Nat):Int)) ((1:Nat):Int)) 3),ofS P.1,ofB P.1,P.2⟩:=by rw [HT2.out,decide_eq_true hm1]
  have e1:((m:Int)==1)=true:=by rw [hm1];rfl
  subst hT3
  clear HT2 hm1
  go_wp2_with (first
   | (refine zaB rfl (.tmp 11) (.tmp 35) rfl w7.heap.size rfl rfl (zbX _) (Blk.new w7 _ _) rfl ?_;intro w8 hb8 hg8;have K8:=hide hb8;have HB8:=hide (zeg HB7.out (Nat.le_refl _) _ hg8 (Nat.le_refl _));have HV8:=hide (zkm HV7.out _ hg8);clear hb8 hg8)
   | (with_reducible refine zaE rfl (.tmp 11) rfl w7.heap.size rfl K8.out (zbX _) ?_)
   | (refine zeL rfl (.tmp 38) (.tmp 39) (.tmp 40) (.tmp 41) (.tmp 42) rfl (zbX P.1) rfl rfl rfl rfl rfl ?_)
   | (refine zbx rfl (.tmp 2) (.tmp 43) rfl w.heap.size rfl rfl (zbX _) rfl (HN.out.over HB8.out) (zck false 0 0 0 _ zbh) ?_;intro w9 hb9 hg9;have K9:=hide hb9;have HV9:=hide (zdV HV8.out hg9 hs5);have HB9:=hide ((zaa W0.out HB8.out (Nat.le_refl _)).grown hg9 (Nat.le_trans W0.out.size HB8.out.size) (fun q hq=>by injection hq with hq;omega));clear hb9 hg9))
  refine znK (p:=2) rfl rfl K9.out (zbX _) rfl ?_
  exact ⟨_,_,rfl,zau HV9.out hz6.out,HB9.out⟩
 ·skip
  have hT3:T=⟨false,k,zdT (zab (zaf (zaf b ((1:Nat):Int)) ((1:Nat):Int)) 3),ofS P.1,ofB P.1,P.2⟩:=by rw [HT2.out,decide_eq_false hm1]
  have e1:((m:Int)==1)=false:=beq_eq_false_iff_ne.2 (by omega)
  subst hT3
  clear HT2 hm1
  go_wp2_with (first
   | (refine zaB rfl (.tmp 11) (.tmp 35) rfl w7.heap.size rfl rfl (zbX _) (Blk.new w7 _ _) rfl ?_;intro w8 hb8 hg8;have K8:=hide hb8;have HB8:=hide (zeg HB7.out (Nat.le_refl _) _ hg8 (Nat.le_refl _));have HV8:=hide (zkm HV7.out _ hg8);clear hb8 hg8)
   | (with_reducible refine zaE rfl (.tmp 11) rfl w7.heap.size rfl K8.out (zbX _) ?_)
   | (refine zeL rfl (.tmp 38) (.tmp 39) (.tmp 40) (.tmp 41) (.tmp 42) rfl (zbX P.1) rfl rfl rfl rfl rfl ?_)
   | (refine zbx rfl (.tmp 2) (.tmp 43) rfl w.heap.size rfl rfl (zbX _) rfl (HN.out.over HB8.out) (zck false 0 0 0 _ zbh) ?_;intro w9 hb9 hg9;have K9:=hide hb9;have HV9:=hide (zdV HV8.out hg9 hs5);have HB9:=hide ((zaa W0.out HB8.out (Nat.le_refl _)).grown hg9 (Nat.le_trans W0.out.size HB8.out.size) (fun q hq=>by injection hq with hq;omega));clear hb9 hg9))
  refine znK (p:=2) rfl rfl K9.out (zbX _) rfl ?_
  exact ⟨_,_,rfl,zau HV9.out hz6.out,HB9.out⟩
open Go.RowKit
theorem zrO (w:World) (lo hi lo' hi' n m c d:Nat) (A B:Option Addr) (xs ys:List UInt8) (hA:At w lo hi A n xs) (hB:At w lo' hi' B m ys) :
  Calls Tryz.prog 94 #[.slice A n c,.slice B m d] w fun e w'=>e = .returned (.bool (decide (xs=ys)))∧w=w':=by
 have tX:=hA.text (P:=Tryz.prog) 36 5 Tryz.underlying36 Tryz.underlying5 c 9 Tryz.underlying9
 have tY:=hB.text (P:=Tryz.prog) 36 5 Tryz.underlying36 Tryz.underlying5 d 9 Tryz.underlying9
 clear hA hB
 have hb:(xs==ys)=decide (xs=ys):=by rw [Bool.eq_iff_iff];simp
 have HB:=hide hb
 clear hb
 go_enter Tryz.func94,Tryz.ntmps94
 go_wp2
 go_ret
 rw [← HB.out]
 exact ⟨rfl,rfl⟩
theorem zo0 (w:World) (lo hi:Nat) (A:Option Addr) (n c:Nat) (b:List UInt8) (hA:At w lo hi A n b) (hh:hi≤w.heap.size) (hn:n≤140737488351232) :
  Calls Tryz.prog 162 #[.slice A n c] w fun e w'=>∃ A' c',e = .returned (.tuple #[.agg (tunC (zco b).leaf (zco b).k (zco b).l (zco b).s (zco b).bs (.slice A' (zco b).id.length c')),.int .i64 (znU b)]) ∧
   w'.ownsRow w.heap.size 5 1 (.slice A' (zco b).id.length c') (zco b).id.length (bvs (zco b).id)∧Below w.heap.size w w':=by
 have HN:=hide (Blk.new w 77 zkW)
 have W0:Hid (Below w.heap.size w (w.alloc (.cells zkW 77))):=hide ((Below.refl _ _).alloc (Nat.le_refl _) _)
 have hz:=hide (Nat.le_trans hh W0.out.size)
 have HA:=hide (hA.alloc hh (.cells zkW 77))
 obtain ⟨T,hT⟩:∃ T,zfv b=T:=⟨_,rfl⟩
 have HTB:Hid (T.bs.length=16):=hide (by rw [← hT];exact znN b)
 have HPB:Hid (zjJ b=(zcw T&&decide (zeD T=b))):=hide (by unfold zjJ;rw [hT])
 have HPT:Hid (∀ q,zjJ b=q→zco b=(if q then T else ztv)∧znU b=if q then 0 else 4):=hide (by rintro q rfl;unfold zco znU;rw [hT];exact ⟨rfl,rfl⟩)
 have HT:=hide hT
 clear hT hA
 go_enter Tryz.func162,Tryz.ntmps162
 go_wp2_with fail
 refine (zqO _ lo hi A n c b HA.out hz.out (Nat.le_trans hn (by decide))).mono ?_
 rw [HT.out]
 rintro e w1 ⟨A1,c1,rfl,ho1,hb1⟩
 obtain ⟨lf,k,l,s,bs,id⟩:=T
 have HO1:=hide ho1
 have HB1:=hide hb1
 have hc1:id.length≤c1:=by
  obtain ⟨_,_,hs,h,_⟩:=zad ho1
  injection hs with _ _ h3
  rw [h3]
  exact h
 clear ho1 hb1
 go_wp2_with (first
  | (refine zbx rfl (.tmp 4) (.tmp 8) rfl w1.heap.size rfl rfl HTB.out rfl (Blk.new w1 _ _) rfl ?_;intro w2 hb2 hg2;have K2:=hide hb2;have HB2:=hide (zeg HB1.out (Nat.le_refl _) _ hg2 (Nat.le_refl _));have HO2:=hide (zkm HO1.out _ hg2);clear hb2 hg2)
  | (with_reducible refine zbb rfl (.tmp 4) rfl w1.heap.size rfl K2.out HTB.out ?_))
 have AO2:=hide ((At.own HO2.out).more (Nat.zero_le _) (Nat.le_refl _))
 by_cases hr:zcw ⟨lf,k,l,s,bs,id⟩=true
 ·refine (zjR w2 lf k l s bs A1 id.length c1 w2.heap.size id AO2.out (Nat.le_refl _) HTB.out hc1 hr).mono ?_
  rintro e w3 ⟨v3,rfl,ho3,hb3⟩
  obtain ⟨A3,c3,rfl,_,_⟩:=zad ho3
  have HO3:=hide ho3
  have K3:=hide (K2.out.over hb3)
  have HB3:=hide (zaa HB2.out hb3 (Nat.le_refl _))
  have HX3:=hide (zaS HO2.out hb3)
  have HA3:=hide (HA.out.below (HB3.out.mono hz.out))
  obtain ⟨r,hrr⟩:∃ r,decide (zeD ⟨lf,k,l,s,bs,id⟩=b)=r:=⟨_,rfl⟩
  have HQ:=hide (HPT.out r (by rw [HPB.out,hr,hrr];cases r <;> rfl))
  have HRR:=hide hrr
  clear ho3 hb3 hrr hr hc1
  go_wp2_with fail
  refine (zrO w3 _ _ lo hi _ n c3 c A3 A _ b (At.own HO3.out) HA3.out).mono ?_
  rw [HRR.out]
  rintro e w4 ⟨rfl,rfl⟩
  cases r
  ·go_wp2_with (refine zbx rfl (.tmp 2) (.tmp 22) rfl w.heap.size rfl (congrArg Value.agg zh1).symm zbh rfl (HN.out.over HB3.out) (zck false 0 0 0 _ zbh) ?_;intro w5 hb5 hg5;have K5:=hide hb5;have HB5:=hide ((zaa W0.out HB3.out (Nat.le_refl _)).grown hg5 (Nat.le_trans W0.out.size HB3.out.size) (fun q hq=>by injection hq with hq;omega));clear hb5 hg5)
   refine zkd (p:=2) (q:=3) (u:=.int .i64 4) rfl rfl rfl K5.out zbh rfl ?_
   rw [HQ.out.1,HQ.out.2]
   exact ⟨none,0,rfl,by simpa [ztv,bvs] using World.ownsRow_nil _ _ _ _,HB5.out⟩
  ·go_wp2_with (first
    | (with_reducible refine zbb rfl (.tmp 4) rfl w1.heap.size rfl K3.out HTB.out ?_)
    | (refine zbx rfl (.tmp 2) (.tmp 23) rfl w.heap.size rfl rfl HTB.out rfl (HN.out.over HB3.out) (zck false 0 0 0 _ zbh) ?_;intro w5 hb5 hg5;have K5:=hide hb5;have HX5:=hide (zdV HX3.out hg5 (by simp));have HB5:=hide ((zaa W0.out HB3.out (Nat.le_refl _)).grown hg5 (Nat.le_trans W0.out.size HB3.out.size) (fun q hq=>by injection hq with hq;omega));clear hb5 hg5))
   refine zkd (p:=2) (q:=3) (u:=.int .i64 0) rfl rfl rfl K5.out HTB.out rfl ?_
   rw [HQ.out.1,HQ.out.2]
   exact ⟨_,_,rfl,zau HX5.out W0.out.size,HB5.out⟩
 ·have hr':zcw ⟨lf,k,l,s,bs,id⟩=false:=by simpa using hr
  refine (zr2 w2 lf k l s bs A1 id.length c1 w2.heap.size id AO2.out (Nat.le_refl _) HTB.out hr').mono ?_
  rintro e w3 ⟨rfl,hb3⟩
  have HB3:=hide (zaa HB2.out hb3 (Nat.le_refl _))
  have HQ:=hide (HPT.out false (by rw [HPB.out,hr'];rfl))
  clear hb3 hr hr' hc1
  go_wp2_with (refine zbx rfl (.tmp 2) (.tmp 22) rfl w.heap.size rfl (congrArg Value.agg zh1).symm zbh rfl (HN.out.over HB3.out) (zck false 0 0 0 _ zbh) ?_;intro w5 hb5 hg5;have K5:=hide hb5;have HB5:=hide ((zaa W0.out HB3.out (Nat.le_refl _)).grown hg5 (Nat.le_trans W0.out.size HB3.out.size) (fun q hq=>by injection hq with hq;omega));clear hb5 hg5)
  refine zkd (p:=2) (q:=3) (u:=.int .i64 4) rfl rfl rfl K5.out zbh rfl ?_
  rw [HQ.out.1,HQ.out.2]
  exact ⟨none,0,rfl,by simpa [ztv,bvs] using World.ownsRow_nil _ _ _ _,HB5.out⟩
end
section
set_option maxRecDepth 20000
set_option maxHeartbeats 2000000
open Go.RowKit
theorem zlp (w:World) (lf lf':Bool) (k k' l l' s s':Int) (bs bs':List UInt8) (A A':Option Addr) (n n' c c' lo hi lo' hi':Nat) (id id':List UInt8) (hA:At w lo hi A n id) (hA':At w lo' hi' A' n' id')
  (hh:hi≤w.heap.size) (hh':hi'≤w.heap.size) (hl:bs.length=16) (hl':bs'.length=16) :
  Calls Tryz.prog 72 #[.agg (tunC lf k l s bs (.slice A n c)),.agg (tunC lf' k' l' s' bs' (.slice A' n' c'))] w fun e w'=>e = .returned (.bool (zoD ⟨lf,k,l,s,bs,id⟩ ⟨lf',k',l',s',bs',id'⟩))∧Below w.heap.size w w':=by
 have hv:zoD ⟨lf,k,l,s,bs,id⟩ ⟨lf',k',l',s',bs',id'⟩=(decide (k=k')&&(decide (s=s'∧bs=bs')&&decide (id=id'))):=by
  unfold zoD
  by_cases h1:k=k' <;> by_cases h2:s=s'∧bs=bs' <;> by_cases h3:id=id' <;> simp [h1,h2,h3]
 rw [hv]
 clear hv
 have c1:=zf9 lf k l s (.slice A n c) bs
 have c1':=zf9 lf' k' l' s' (.slice A' n' c') bs'
 have c20:=zdQ lf k l s (.slice A n c) hl
 have c20':=zdQ lf' k' l' s' (.slice A' n' c') hl'
 have B1:Hid (Blk ((w.alloc (.cells (tunC lf k l s bs (.slice A n c)) 77)).alloc (.cells (tunC lf' k' l' s' bs' (.slice A' n' c')) 77)) w.heap.size 77 (tunC lf k l s bs (.slice A n c))):=hide ((Blk.new w _ _).alloc _)
 have B2:Hid (Blk ((w.alloc (.cells (tunC lf k l s bs (.slice A n c)) 77)).alloc (.cells (tunC lf' k' l' s' bs' (.slice A' n' c')) 77)) (w.heap.size+1) 77 (tunC lf' k' l' s' bs' (.slice A' n' c'))):=hide (zcG w _ _ _)
 have P1:Hid (At ((w.alloc (.cells (tunC lf k l s bs (.slice A n c)) 77)).alloc (.cells (tunC lf' k' l' s' bs' (.slice A' n' c')) 77)) lo hi A n id):=hide ((hA.alloc hh _).alloc (by simp;omega) _)
 have P2:Hid (At ((w.alloc (.cells (tunC lf k l s bs (.slice A n c)) 77)).alloc (.cells (tunC lf' k' l' s' bs' (.slice A' n' c')) 77)) lo' hi' A' n' id'):=hide ((hA'.alloc hh' _).alloc (by simp;omega) _)
 have W0:Hid (Below w.heap.size w ((w.alloc (.cells (tunC lf k l s bs (.slice A n c)) 77)).alloc (.cells (tunC lf' k' l' s' bs' (.slice A' n' c')) 77))):=hide (((Below.refl _ _).alloc (Nat.le_refl _) _).alloc (by simp) _)
 have HL:=hide hl
 have HL':=hide hl'
 obtain ⟨r2,hr2⟩:∃ r,decide (s=s'∧bs=bs')=r:=⟨_,rfl⟩
 obtain ⟨r3,hr3⟩:∃ r,decide (id=id')=r:=⟨_,rfl⟩
 rw [hr2,hr3]
 have R2:=hide hr2
 have rb:(id==id')=r3:=by rw [← hr3,Bool.eq_iff_iff];simp
 have tX:=P1.out.text (P:=Tryz.prog) 36 5 Tryz.underlying36 Tryz.underlying5 c 9 Tryz.underlying9
 have tY:=P2.out.text (P:=Tryz.prog) 36 5 Tryz.underlying36 Tryz.underlying5 c' 9 Tryz.underlying9
 clear hl hl' hA hA' hr2 hr3
 by_cases h1:k=k'
 ·rw [decide_eq_true h1]
  have e1:(k==k')=true:=by rw [h1];simp
  clear h1
  cases r2
  ·go_enter Tryz.func72,Tryz.ntmps72
   go_wp2_with (first
    | ((with_reducible refine za2 ?_ (.tmp 11) rfl w.heap.size rfl B1.out HL.out ?_);(· rfl))
    | ((with_reducible refine za2 ?_ (.tmp 13) rfl (w.heap.size+1) rfl B2.out HL'.out ?_);(· rfl))
    | ((with_reducible refine zcj ?_ (.tmp 12) (.tmp 14) rfl rfl rfl HL.out HL'.out ?_);(· rfl);rw [R2.out]))
   go_ret
   exact ⟨rfl,W0.out⟩
  ·cases r3
   all_goals
    go_enter Tryz.func72,Tryz.ntmps72
    go_wp2_with (first
     | ((with_reducible refine za2 ?_ (.tmp 11) rfl w.heap.size rfl B1.out HL.out ?_);(· rfl))
     | ((with_reducible refine za2 ?_ (.tmp 13) rfl (w.heap.size+1) rfl B2.out HL'.out ?_);(· rfl))
     | ((with_reducible refine zcj ?_ (.tmp 12) (.tmp 14) rfl rfl rfl HL.out HL'.out ?_);(· rfl);rw [R2.out]))
    go_ret
    exact ⟨rfl,W0.out⟩
 ·rw [decide_eq_false h1]
  have e1:(k==k')=false:=beq_eq_false_iff_ne.2 h1
  clear h1
  go_enter Tryz.func72,Tryz.ntmps72
  go_wp2
  go_ret
  exact ⟨rfl,W0.out⟩
def eqT (a b:Tun):Bool:=zoD a b&&((a.leaf==b.leaf)&&decide (a.l=b.l))
theorem zrP (a b:Tun):eqT a b=true↔a=b:=by
 obtain ⟨lf,k,l,s,bs,id⟩:=a
 obtain ⟨lf',k',l',s',bs',id'⟩:=b
 unfold eqT zoD
 simp only [Bool.and_eq_true,decide_eq_true_eq,beq_iff_eq,Tun.mk.injEq]
 constructor
 ·rintro ⟨⟨h1,⟨h2,h3⟩,h4⟩,h5,h6⟩
  exact ⟨h5,h1,h6,h2,h3,h4⟩
 ·rintro ⟨h5,h1,h6,h2,h3,h4⟩
  exact ⟨⟨h1,⟨h2,h3⟩,h4⟩,h5,h6⟩
theorem zkf (w:World) (lf lf':Bool) (k k' l l' s s':Int) (bs bs':List UInt8) (A A':Option Addr) (n n' c c' lo hi lo' hi':Nat) (id id':List UInt8) (hA:At w lo hi A n id) (hA':At w lo' hi' A' n' id')
  (hh:hi≤w.heap.size) (hh':hi'≤w.heap.size) (hl:bs.length=16) (hl':bs'.length=16) :
  Calls Tryz.prog 36 #[.agg (tunC lf k l s bs (.slice A n c)),.agg (tunC lf' k' l' s' bs' (.slice A' n' c'))] w fun e w'=>e = .returned (.bool (eqT ⟨lf,k,l,s,bs,id⟩ ⟨lf',k',l',s',bs',id'⟩))∧Below w.heap.size w w':=by
 have B1:Hid (Blk ((w.alloc (.cells (tunC lf k l s bs (.slice A n c)) 77)).alloc (.cells (tunC lf' k' l' s' bs' (.slice A' n' c')) 77)) w.heap.size 77 (tunC lf k l s bs (.slice A n c))):=hide ((Blk.new w _ _).alloc _)
 have B2:Hid (Blk ((w.alloc (.cells (tunC lf k l s bs (.slice A n c)) 77)).alloc (.cells (tunC lf' k' l' s' bs' (.slice A' n' c')) 77)) (w.heap.size+1) 77 (tunC lf' k' l' s' bs' (.slice A' n' c'))):=hide (zcG w _ _ _)
 have P1:Hid (At ((w.alloc (.cells (tunC lf k l s bs (.slice A n c)) 77)).alloc (.cells (tunC lf' k' l' s' bs' (.slice A' n' c')) 77)) lo hi A n id):=hide ((hA.alloc hh _).alloc (by simp;omega) _)
 have P2:Hid (At ((w.alloc (.cells (tunC lf k l s bs (.slice A n c)) 77)).alloc (.cells (tunC lf' k' l' s' bs' (.slice A' n' c')) 77)) lo' hi' A' n' id'):=hide ((hA'.alloc hh' _).alloc (by simp;omega) _)
 have W0:Hid (Below w.heap.size w ((w.alloc (.cells (tunC lf k l s bs (.slice A n c)) 77)).alloc (.cells (tunC lf' k' l' s' bs' (.slice A' n' c')) 77))):=hide (((Below.refl _ _).alloc (Nat.le_refl _) _).alloc (by simp) _)
 have HL:=hide hl
 have HL':=hide hl'
 obtain ⟨r,hr⟩:∃ r,zoD ⟨lf,k,l,s,bs,id⟩ ⟨lf',k',l',s',bs',id'⟩=r:=⟨_,rfl⟩
 obtain ⟨q,hq⟩:∃ q,decide (l=l')=q:=⟨_,rfl⟩
 have e1:(l==l')=q:=by rw [← hq,Bool.eq_iff_iff];simp
 have hv:eqT ⟨lf,k,l,s,bs,id⟩ ⟨lf',k',l',s',bs',id'⟩=(r&&((lf==lf')&&q)):=by unfold eqT;rw [hr,hq]
 rw [hv]
 have R:=hide hr
 have hz1:hi≤((w.alloc (.cells (tunC lf k l s bs (.slice A n c)) 77)).alloc (.cells (tunC lf' k' l' s' bs' (.slice A' n' c')) 77)).heap.size:=Nat.le_trans hh W0.out.size
 have hz2:hi'≤((w.alloc (.cells (tunC lf k l s bs (.slice A n c)) 77)).alloc (.cells (tunC lf' k' l' s' bs' (.slice A' n' c')) 77)).heap.size:=Nat.le_trans hh' W0.out.size
 clear hl hl' hA hA' hr hv hq
 go_enter Tryz.func36,Tryz.ntmps36
 go_wp2_with (first
  | (with_reducible refine zbb rfl (.tmp 2) rfl w.heap.size rfl B1.out HL.out ?_)
  | (with_reducible refine zbb rfl (.tmp 3) rfl (w.heap.size+1) rfl B2.out HL'.out ?_))
 refine (zlp _ lf lf' k k' l l' s s' bs bs' A A' n n' c c' lo hi lo' hi' id id' P1.out P2.out hz1 hz2 HL.out HL'.out).mono ?_
 rw [R.out]
 rintro e w1 ⟨rfl,hb1⟩
 have k0:=((B1.out.over hb1).cell 0).trans (zjy lf k l s (.slice A n c) bs)
 have k2:=((B1.out.over hb1).cell 2).trans (zh2 lf k l s (.slice A n c) bs)
 have j0:=((B2.out.over hb1).cell 0).trans (zjy lf' k' l' s' (.slice A' n' c') bs')
 have j2:=((B2.out.over hb1).cell 2).trans (zh2 lf' k' l' s' (.slice A' n' c') bs')
 have W1:=hide (zaa W0.out hb1 (Nat.le_refl _))
 clear hb1 hz1 hz2
 cases r <;> cases q <;> cases lf <;> cases lf'
 all_goals
  go_wp2
  go_ret
  exact ⟨rfl,W1.out⟩
end
end Go.Proofs.YtookpplebikfnaaGreatDoor
