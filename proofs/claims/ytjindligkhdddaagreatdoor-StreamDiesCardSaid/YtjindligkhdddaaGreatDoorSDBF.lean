/-
  What parts, read and Same of package pmsi do, in whatever memory. No condition beyond sizes that fit memory.
  What read of package pmsi does, in whatever memory. No condition beyond sizes that fit memory.
  What bytes.Equal, and Same and Parse of package pmsi, do, in whatever memory. No condition beyond sizes that fit memory.
  What a value says where it says a tunnel, in whatever memory. No condition.
  What a value says where it says a segment of a path, in whatever memory. No condition.
  What a value says where it says a segment, in whatever memory. No condition.
  What a value says where it says a path, in whatever memory. No condition.
-/
import Derived.Test.YtjindligkhdddaaGreatDoorSDBE
set_option linter.unusedVariables false
set_option linter.unusedSimpArgs false
namespace Go.Proofs.YtjindligkhdddaaGreatDoor
section
set_option maxRecDepth 20000
set_option maxHeartbeats 4000000
open Go.RowKit
theorem Rd.on {w x:World} {lo g:Nat} {bs:List UInt8} {bad:Bool} (h:Rd w lo g bs bad) (hb:Below w.heap.size w x):Rd x lo g bs bad:=h.below hb h.lt
theorem wf_len {bs:List UInt8} {w:World} {lo g:Nat} {bad:Bool} (h:Rd w lo g bs bad):(Lit.int .i64 ((bs.length:Nat):Int)).wf=true:=WalkArith.wf_i64 (by have:=h.len;omega)
theorem zwM {bs:List UInt8} {w:World} {lo g:Nat} {bad:Bool} (h:Rd w lo g bs bad):(Lit.int .i64 ((bs.length/2:Nat):Int)).wf=true:=WalkArith.wf_i64 (by have:=h.len;omega)
theorem zdC (w:World) (lo g:Nat) (bs:List UInt8) (bad:Bool) (h:Rd w lo g bs bad) :
  Calls Tryz.prog 19 #[.pointer (some ⟨g,0,none⟩),.int .i64 ((bs.length:Nat):Int)] w fun e w'=>∃ v,e = .returned v∧w'.ownsRow w.heap.size 5 1 v bs.length (bvs bs) ∧
   (∃ bad',Rd w' lo g [] bad')∧w.grownBy w' (some g):=by
 refine (zaR w lo g bs bad h _ (wf_len h)).mono ?_
 rintro e w1 ⟨v,rfl,ho,hr,hg⟩
 obtain ⟨s1,s2⟩:=zuu bs
 rw [s1] at ho
 rw [s2] at hr
 exact ⟨v,rfl,ho,⟨_,hr⟩,hg⟩
theorem zqN {a b c:World} {row row':Option Nat} (h:a.grownBy b row) (k:b.grownBy c row') (hr:∀ q,row'=some q→a.heap.size≤q):a.grownBy c row :=
 ⟨k.os.trans h.os,k.tape.trans h.tape,k.output.trans h.output,Nat.le_trans h.size k.size,fun i hi hne=>(k.block i (Nat.lt_of_lt_of_le hi h.size) (fun e=>by have:=hr i e.symm;omega)).trans (h.block i hi hne)⟩
theorem zlO (w:World) (lo g:Nat) (r:List UInt8) (bad:Bool) (h:Rd w lo g r bad) (hlo:lo≤g) (k:Nat) (hk:k<256) :
  Calls Tryz.prog 226 #[.pointer (some ⟨g,0,none⟩),.int .i64 (k:Int)] w fun e w'=>∃ u v,e = .returned (.tuple #[u,v])∧w'.ownsRow w.heap.size 5 1 u (zdd k r).1.length (bvs (zdd k r).1) ∧
   w'.ownsRow w.heap.size 5 1 v (zdd k r).2.length (bvs (zdd k r).2)∧w.grownBy w' (some g):=by
 obtain ⟨i0,hi0,hz0,hz1,hz2⟩:=info_parts zbQ
 have HR:=hide h
 have hgl:=h.lt
 clear h
 by_cases h1:k=1
 ·subst h1
  have hp1:(zdd ((1:Nat):Int) r)=(zae (zae (zae r 4) 2) 2,zab r 4++zab (zae (zae r 4) 2) 2):=rfl
  rw [hp1]
  clear hp1 hk
  go_enter Tryz.func226,Tryz.ntmps226
  go_wp2_with fail
  refine (zaR w lo g r bad HR.out 4 (by decide)).mono ?_
  rintro e w1 ⟨v1,rfl,ho1,hr1,hg1⟩
  obtain ⟨A1,c1,rfl,_,_⟩:=zag ho1
  have R1:=hide hr1
  have HO1:=hide ho1
  have hs1:=hg1.size
  clear hr1 ho1
  go_wp2_with fail
  refine (zaR w1 lo g _ _ R1.out 2 (by decide)).mono ?_
  rintro e w2 ⟨v2,rfl,ho2,hr2,hg2⟩
  obtain ⟨A2,c2,rfl,_,_⟩:=zag ho2
  have R2:=hide hr2
  have HO2:=hide ho2
  have hs2:=hg2.size
  clear hr2 ho2
  go_wp2_with fail
  refine (zaR w2 lo g _ _ R2.out 2 (by decide)).mono ?_
  rintro e w3 ⟨v3,rfl,ho3,hr3,hg3⟩
  obtain ⟨A3,c3,rfl,_,_⟩:=zag ho3
  have R3:=hide hr3
  have HO3:=hide ho3
  have hs3:=hg3.size
  clear hr3 ho3
  have hz12:w.heap.size≤w2.heap.size:=Nat.le_trans hs1 hs2
  have HO13:=hide (zcE (zcE HO1.out hg2 hgl) hg3 hgl)
  go_wp2_with (at_builtin;go_must (refine zap _ rfl (.tmp 20) (.tmp 22) _ rfl w.heap.size 5 i0 Tryz.underlying22 hi0 hz0 hz1 hz2 (.slice A1 (zab r 4).length c1) (zab r 4).length (zab r 4) rfl HO13.out w2.heap.size w3.heap.size A3 _ c3 _ rfl (At.own HO3.out) (by have h4:=zcP (bs:=r) (n:=4) (k:=4) (by decide);have h2:=zcP (bs:=zae (zae r 4) 2) (n:=2) (k:=2) (by decide);omega) (Nat.le_trans hz12 hs3) ?_);intro v4 w4 ho4 hg4 ha4)
  have hr4:∀ q,(Value.slice A1 (zab r 4).length c1).ownBlock=some q→w.heap.size≤q:=fun q hq=>(HO13.out.lt q hq).1
  have R4:=hide (R3.out.keep hg4 (fun q hq=>.inr (by have:=hr4 q hq;omega)))
  have G4:=hide (zqN (zak (zak hg1 hg2) hg3) hg4 hr4)
  have HO4:=hide ho4
  clear ho4 hg4 hr4 ha4
  go_wp2_with fail
  refine (R4.out.left).mono ?_
  rintro e wl ⟨rfl,rfl⟩
  go_wp2_with fail
  refine (zdC w4 lo g _ _ R4.out).mono ?_
  rintro e w5 ⟨v5,rfl,ho5,⟨bd5,hr5⟩,hg5⟩
  have R5:=hide hr5
  have HO5:=hide ho5
  clear hr5 ho5
  go_wp2
  go_ret2
  refine ⟨_,_,rfl,zaA HO5.out G4.out.size,?_,zak G4.out hg5⟩
  rw [List.length_append]
  exact zcE HO4.out hg5 hgl
 by_cases h2:k=2∨k=7
 ·obtain ⟨m,hm⟩:∃ m:Nat,big (zab (zae r 3) ((1:Nat):Int))=m:=⟨_,rfl⟩
  have hm256:m<256:=by
   have h1:=zfb (zab (zae r 3) ((1:Nat):Int))
   have h2:=zcP (bs:=zae r 3) (n:=((1:Nat):Int)) (k:=1) (Int.le_refl _)
   have h3:=Nat.pow_le_pow_right (n:=256) (by decide) h2
   omega
  have hp1:zdd (k:Int) r=(zab (zae (zae r 3) ((1:Nat):Int)) (m:Int),zae (zae (zae (zae r 3) ((1:Nat):Int)) (m:Int)) 2):=by
   rw [← hm]
   rcases h2 with rfl | rfl <;> rfl
  rw [hp1]
  have HM:=hide hm
  have HMW:Hid ((Lit.int .i64 (m:Int)).wf=true):=hide (WalkArith.wf_i64 (by omega))
  clear hp1 hk hm hm256
  rcases h2 with rfl | rfl
  all_goals
   go_enter Tryz.func226,Tryz.ntmps226
   go_wp2_with fail
   refine (zaR w lo g r bad HR.out 3 (by decide)).mono ?_
   rintro e w1 ⟨v1,rfl,ho1,hr1,hg1⟩
   obtain ⟨A1,c1,rfl,_,_⟩:=zag ho1
   have R1:=hide hr1
   have HO1:=hide ho1
   have hs1:=hg1.size
   clear hr1 ho1
   go_wp2_with fail
   refine (ziR w1 lo g (zae r 3) _ R1.out 1 (by decide) (by decide)).mono ?_
   rw [HM.out]
   rintro e w2 ⟨rfl,hr2,hg2⟩
   have R2:=hide hr2
   have hs2:=hg2.size
   clear hr2
   go_wp2_with fail
   refine (zaR w2 lo g _ _ R2.out (m:Int) HMW.out).mono ?_
   rintro e w3 ⟨v3,rfl,ho3,hr3,hg3⟩
   obtain ⟨A3,c3,rfl,_,_⟩:=zag ho3
   have R3:=hide hr3
   have HO3:=hide ho3
   have hs3:=hg3.size
   clear hr3 ho3
   go_wp2_with fail
   refine (zaR w3 lo g _ _ R3.out 2 (by decide)).mono ?_
   rintro e w4 ⟨v4,rfl,ho4,hr4,hg4⟩
   obtain ⟨A4,c4,rfl,_,_⟩:=zag ho4
   have R4:=hide hr4
   have HO4:=hide ho4
   have hs4:=hg4.size
   clear hr4 ho4
   go_wp2_with fail
   refine (R4.out.left).mono ?_
   rintro e wl ⟨rfl,rfl⟩
   go_wp2_with fail
   refine (zdC w4 lo g _ _ R4.out).mono ?_
   rintro e w5 ⟨v5,rfl,ho5,⟨bd5,hr5⟩,hg5⟩
   have R5:=hide hr5
   have HO5:=hide ho5
   clear hr5 ho5
   have hz2:w.heap.size≤w2.heap.size:=Nat.le_trans hs1 hs2
   go_wp2
   go_ret2
   exact ⟨_,_,rfl,zcE (zcE (zaA HO3.out hz2) hg4 hgl) hg5 hgl,zaA HO5.out (Nat.le_trans hz2 (Nat.le_trans hs3 hs4)),zak (zak (zak (zak hg1 hg2) hg3) hg4) hg5⟩
 by_cases h3:k=3∨k=4∨k=5
 ·have hp1:zdd (k:Int) r=(zab r ((r.length/2:Nat):Int),zae r ((r.length/2:Nat):Int)):=by rcases h3 with rfl | rfl | rfl <;> rfl
  rw [hp1]
  have HW:=hide (zwM HR.out)
  clear hp1 hk
  rcases h3 with rfl | rfl | rfl
  all_goals
   go_enter Tryz.func226,Tryz.ntmps226
   go_wp2_with fail
   refine (HR.out.left).mono ?_
   rintro e wl ⟨rfl,rfl⟩
   have hle:=HR.out.len
   have hq:wrap64 ((r.length:Int)/2)=((r.length/2:Nat):Int):=by unfold wrap64;omega
   have HQ:=hide hq
   clear hq hle
   go_wp2_with fail
   rw [HQ.out]
   refine (zaR w lo g r bad HR.out _ HW.out).mono ?_
   rintro e w1 ⟨v1,rfl,ho1,hr1,hg1⟩
   have R1:=hide hr1
   have HO1:=hide ho1
   clear hr1 ho1
   go_wp2_with fail
   refine (R1.out.left).mono ?_
   rintro e wl ⟨rfl,rfl⟩
   go_wp2_with fail
   refine (zdC w1 lo g _ _ R1.out).mono ?_
   rintro e w2 ⟨v2,rfl,ho2,⟨bd2,hr2⟩,hg2⟩
   have R2:=hide hr2
   have HO2:=hide ho2
   clear hr2 ho2
   go_wp2
   go_ret2
   exact ⟨_,_,rfl,zcE HO1.out hg2 hgl,zaA HO2.out hg1.size,zak hg1 hg2⟩
 have hp1:zdd (k:Int) r=(r,[]):=by
  unfold zdd
  rw [if_neg (by omega),if_neg (by omega),if_neg (by omega)]
 rw [hp1]
 clear hp1 hk
 have e1:((k:Int)==1)=false:=beq_eq_false_iff_ne.2 (by omega)
 have e2:((k:Int)==2)=false:=beq_eq_false_iff_ne.2 (by omega)
 have e7:((k:Int)==7)=false:=beq_eq_false_iff_ne.2 (by omega)
 have e3:((k:Int)==3)=false:=beq_eq_false_iff_ne.2 (by omega)
 have e4:((k:Int)==4)=false:=beq_eq_false_iff_ne.2 (by omega)
 have e5:((k:Int)==5)=false:=beq_eq_false_iff_ne.2 (by omega)
 clear h1 h2 h3
 ·go_enter Tryz.func226,Tryz.ntmps226
  go_wp2_with fail
  refine (HR.out.left).mono ?_
  rintro e wl ⟨rfl,rfl⟩
  go_wp2_with fail
  refine (zdC w lo g _ _ HR.out).mono ?_
  rintro e w1 ⟨v1,rfl,ho1,⟨bd1,hr1⟩,hg1⟩
  have R1:=hide hr1
  have HO1:=hide ho1
  clear hr1 ho1
  go_wp2_with fail
  refine (R1.out.left).mono ?_
  rintro e wl ⟨rfl,rfl⟩
  go_wp2_with fail
  refine (zdC w1 lo g _ _ R1.out).mono ?_
  rintro e w2 ⟨v2,rfl,ho2,⟨bd2,hr2⟩,hg2⟩
  have R2:=hide hr2
  have HO2:=hide ho2
  clear hr2 ho2
  go_wp2
  go_ret2
  exact ⟨_,_,rfl,zcE HO1.out hg2 hgl,zaA HO2.out hg1.size,zak hg1 hg2⟩
open Go.RowKit
theorem zeD {ops:Array Oper} {rest:List Oper} {o:Oper} {a:Act} {w:World} {Q:Exit→Act→World→Prop} (hgd:o.guard=none) (x0 x1 x2 x3 x4:Operand)
  (ho:o.op = .build 157 #[(0,x0),(1,x1),(2,x2),(3,x3),(4,x4)]) {lf:Bool} {k l s:Int} {bs:List UInt8} {A:Option Addr} {n c:Nat} (hl:bs.length=16)
  (h0:a.eval x0 = .bool lf) (h1:a.eval x1 = .int .i64 k) (h2:a.eval x2 = .int .i64 l) (h3:a.eval x3 = .agg (zas s bs)) (h4:a.eval x4 = .slice A n c)
  (hk:wpList Tryz.prog ops Q rest (a.put o.dst (.agg (tunC lf k l s bs (.slice A n c)))) w):wpList Tryz.prog ops Q (o::rest) a w :=
 wpList_buildTo hgd 157 #[(0,x0),(1,x1),(2,x2),(3,x3),(4,x4)] ho o.dst rfl _ (by simp only [List.map_toArray,List.map_cons,List.map_nil,h0,h1,h2,h3,h4];exact ztE A n c hl) hk
theorem zoU {fn:Func} {R:Ending→World→Prop} {a:Act} {w:World} {p:Tmp} {g:Nat} {t:TypeId} {lf:Bool} {k l s:Int} {bs:List UInt8} {v:Value} (hf:fn.results=#[.cell p 157])
  (hp:a.tmps.getD p undef = .pointer (some ⟨g,0,none⟩)) (h:Blk w g t (tunC lf k l s bs v)) (hl:bs.length=16) (hd:a.defers=[]) (hR:R (.returned (.agg (tunC lf k l s bs v))) w) :
  bodyPost Tryz.prog fn R .ret a w:=by
 refine bodyPost_ret (v:=.agg (tunC lf k l s bs v)) ?_ hd hR
 have hp':a.tmps[p]?.getD undef = .pointer (some ⟨g,0,none⟩):=by simpa using hp
 simp [results,hf,hp',asAddr,zk7 h hl]
theorem zkL {fn:Func} {R:Ending→World→Prop} {a:Act} {w:World} {p q:Tmp} {g:Nat} {t:TypeId} {lf:Bool} {k l s:Int} {bs:List UInt8} {v u:Value} (hf:fn.results=#[.cell p 157,.tmp q])
  (hp:a.tmps.getD p undef = .pointer (some ⟨g,0,none⟩)) (hq:a.tmps.getD q undef=u) (h:Blk w g t (tunC lf k l s bs v)) (hl:bs.length=16) (hd:a.defers=[]) (hR:R (.returned (.tuple #[.agg (tunC lf k l s bs v),u])) w) :
  bodyPost Tryz.prog fn R .ret a w:=by
 refine bodyPost_ret (v:=.tuple #[.agg (tunC lf k l s bs v),u]) ?_ hd hR
 have hp':a.tmps[p]?.getD undef = .pointer (some ⟨g,0,none⟩):=by simpa using hp
 have hq':a.tmps[q]?.getD undef=u:=by simpa using hq
 simp [results,hf,hp',hq',asAddr,zk7 h hl]
theorem zkU {w x:World} {B n:Nat} {e:TypeId} {v:Value} {l:List Value} (h:w.ownsRow B e 1 v n l) (o:Obj) (hg:(w.alloc o).grownBy x (some w.heap.size)):x.ownsRow B e 1 v n l:=by
 refine zfX (za6 h ((Below.refl _ _).alloc (Nat.le_refl _) o)) hg ?_
 cases hv:v.ownBlock with
 | none=>exact .inl rfl
 | some b =>
  refine .inr (fun e=>?_)
  injection e with e
  have:=(h.lt b hv).2
  omega
def zlE:Array Value:=tunC false 0 0 0 zat (.slice none 0 0)
theorem zsG (bs:List UInt8):big (zab bs ((1:Nat):Int))<256:=by
 have h1:=zfb (zab bs ((1:Nat):Int))
 have h2:=zcP (bs:=bs) (n:=((1:Nat):Int)) (k:=1) (Int.le_refl _)
 have h3:=Nat.pow_le_pow_right (n:=256) (by decide) h2
 omega
theorem zse (w:World) (lo hi:Nat) (A:Option Addr) (n c:Nat) (b:List UInt8) (hA:At w lo hi A n b) (hh:hi≤w.heap.size) (hn:n≤140737488355328) :
  Calls Tryz.prog 211 #[.slice A n c] w fun e w'=>∃ A' c',e = .returned (.agg (tunC (zfv b).leaf (zfv b).k (zfv b).l (zfv b).s (zfv b).bs (.slice A' (zfv b).id.length c'))) ∧
   w'.ownsRow w.heap.size 5 1 (.slice A' (zfv b).id.length c') (zfv b).id.length (bvs (zfv b).id)∧Below w.heap.size w w':=by
 have HT:Hid (zfv b=⟨zpi b,zjy b,numR b,ofS (zdd (zjy b) (znk b)).1,ofB (zdd (zjy b) (znk b)).1,(zdd (zjy b) (znk b)).2⟩):=hide rfl
 obtain ⟨T,hT⟩:∃ T,zfv b=T:=⟨_,rfl⟩
 rw [hT] at HT ⊢
 clear hT
 have HA:=hide (hA.alloc hh (.cells zlE 157))
 have HN:=hide (Blk.new w 157 zlE)
 have HZ:=hide zij
 have W0:Hid (Below w.heap.size w (w.alloc (.cells zlE 157))):=hide ((Below.refl _ _).alloc (Nat.le_refl _) _)
 obtain ⟨m,hm⟩:∃ m:Nat,big (zab b ((1:Nat):Int))=m:=⟨_,rfl⟩
 obtain ⟨k,hk⟩:∃ k:Nat,big (zab (zae b ((1:Nat):Int)) ((1:Nat):Int))=k:=⟨_,rfl⟩
 have hk2:k<256:=by rw [← hk];exact zsG _
 have HM:=hide hm
 have HK:=hide hk
 have HK2:=hide hk2
 have HLF:Hid (zpi b=decide (m=1)):=hide (by unfold zpi;rw [← hm];rfl)
 have HKR:Hid (zjy b=k):=hide (by unfold zjy;exact hk)
 have hz:hi≤(w.alloc (.cells zlE 157)).heap.size:=Nat.le_trans hh W0.out.size
 clear hm hk hk2 hA
 go_enter Tryz.func211,Tryz.ntmps211
 go_wp2_with fail
 refine (zbt _ lo hi A n c b HA.out hz hn).mono ?_
 rintro e w1 ⟨g,rfl,hg,hr1,hb1⟩
 have hgs:w.heap.size+1≤g:=by simpa using hg
 have R1:=hide hr1
 have B1:=hide hb1
 have hgl:=hr1.lt
 clear hr1 hb1 hg
 go_wp2_with fail
 refine (ziR w1 _ g b false R1.out 1 (by decide) (by decide)).mono ?_
 rw [HM.out]
 rintro e w2 ⟨rfl,hr2,hg2⟩
 have R2:=hide hr2
 have HB2:=hide (B1.out.grown hg2 B1.out.size (fun q hq=>by injection hq with hq;subst hq;simpa using hgs))
 clear hr2 hg2
 go_wp2_with fail
 refine (ziR w2 _ g _ _ R2.out 1 (by decide) (by decide)).mono ?_
 rw [HK.out]
 rintro e w3 ⟨rfl,hr3,hg3⟩
 have R3:=hide hr3
 have HB3:=hide (HB2.out.grown hg3 HB2.out.size (fun q hq=>by injection hq with hq;subst hq;simpa using hgs))
 clear hr3 hg3
 go_wp2_with fail
 refine (zaR w3 _ g _ _ R3.out 3 (by decide)).mono ?_
 rintro e w4 ⟨v4,rfl,ho4,hr4,hg4⟩
 obtain ⟨A4,c4,rfl,_,_⟩:=zag ho4
 have R4:=hide hr4
 have HO4:=hide ho4
 have HB4:=hide (HB3.out.grown hg4 HB3.out.size (fun q hq=>by injection hq with hq;subst hq;simpa using hgs))
 clear hr4 hg4 ho4
 go_wp2_with fail
 refine (zoY w4 A4 _ c4 _ (At.own HO4.out) (Nat.le_refl _) (Nat.le_trans (zcP (k:=3) (by decide)) (by decide))).mono ?_
 rintro e w5 ⟨rfl,hb5⟩
 have R5:=hide (R4.out.on hb5)
 have HB5:=hide (zaa HB4.out hb5 (Nat.le_refl _))
 clear hb5
 go_wp2_with fail
 obtain ⟨P,hP⟩:∃ P,zdd (k:Int) (znk b)=P:=⟨_,rfl⟩
 have HP:Hid (zdd (k:Int) (zae (zae (zae b ((1:Nat):Int)) ((1:Nat):Int)) 3)=P):=hide hP
 have HT2:Hid (T=⟨decide (m=1),k,zdX (zab (zae (zae b ((1:Nat):Int)) ((1:Nat):Int)) 3),ofS P.1,ofB P.1,P.2⟩):=hide (by rw [HT.out,HKR.out,HLF.out,hP];rfl)
 clear hP HT
 refine (zlO w5 _ g _ _ R5.out (by simpa using (show w.heap.size+1≤g from hgs)) k HK2.out).mono ?_
 rw [HP.out]
 rintro e w6 ⟨u6,v6,rfl,hu6,hv6,hg6⟩
 obtain ⟨A6,c6,rfl,_,_⟩:=zag hu6
 obtain ⟨D6,d6,rfl,_,_⟩:=zag hv6
 have HU6:=hide hu6
 have HV6:=hide hv6
 have HB6:=hide (HB5.out.grown hg6 HB5.out.size (fun q hq=>by injection hq with hq;subst hq;simpa using hgs))
 have hz6:=hide (Nat.le_trans W0.out.size HB5.out.size)
 clear hu6 hv6 hg6
 go_wp2_with fail
 refine (zgl w6 _ _ A6 P.1.length c6 P.1 (At.own HU6.out) (Nat.le_refl _)).mono ?_
 rintro e w7 ⟨rfl,hb7⟩
 have HB7:=hide (zaa HB6.out hb7 (Nat.le_refl _))
 have HV7:=hide (za6 HV6.out hb7)
 clear hb7
 have hs5:w.heap.size<w5.heap.size:=by have h:=HB5.out.size;simp at h;omega
 by_cases hm1:m=1
 ·skip
  have hT3:T=⟨true,k,zdX (zab (zae (zae b ((1:Nat):Int)) ((1:Nat):Int)) 3),ofS P.1,ofB P.1,P.2⟩:=by rw [HT2.out,decide_eq_true hm1]
  have e1:((m:Int)==1)=true:=by rw [hm1];rfl
  subst hT3
  clear HT2 hm1
  go_wp2_with (first
   | (refine zaG rfl (.tmp 11) (.tmp 35) rfl w7.heap.size rfl rfl (zbZ _) (Blk.new w7 _ _) rfl ?_;intro w8 hb8 hg8;have K8:=hide hb8;have HB8:=hide (zef HB7.out (Nat.le_refl _) _ hg8 (Nat.le_refl _));have HV8:=hide (zkU HV7.out _ hg8);clear hb8 hg8)
   | (with_reducible refine zaI rfl (.tmp 11) rfl w7.heap.size rfl K8.out (zbZ _) ?_)
   | (refine zeD rfl (.tmp 38) (.tmp 39) (.tmp 40) (.tmp 41) (.tmp 42) rfl (zbZ P.1) rfl rfl rfl rfl rfl ?_)
   | (refine zbv rfl (.tmp 2) (.tmp 43) rfl w.heap.size rfl rfl (zbZ _) rfl (HN.out.over HB8.out) (zcg false 0 0 0 _ zbb) ?_;intro w9 hb9 hg9;have K9:=hide hb9;have HV9:=hide (zcE HV8.out hg9 hs5);have HB9:=hide ((zaa W0.out HB8.out (Nat.le_refl _)).grown hg9 (Nat.le_trans W0.out.size HB8.out.size) (fun q hq=>by injection hq with hq;omega));clear hb9 hg9))
  refine zoU (p:=2) rfl rfl K9.out (zbZ _) rfl ?_
  exact ⟨_,_,rfl,zaA HV9.out hz6.out,HB9.out⟩
 ·skip
  have hT3:T=⟨false,k,zdX (zab (zae (zae b ((1:Nat):Int)) ((1:Nat):Int)) 3),ofS P.1,ofB P.1,P.2⟩:=by rw [HT2.out,decide_eq_false hm1]
  have e1:((m:Int)==1)=false:=beq_eq_false_iff_ne.2 (by omega)
  subst hT3
  clear HT2 hm1
  go_wp2_with (first
   | (refine zaG rfl (.tmp 11) (.tmp 35) rfl w7.heap.size rfl rfl (zbZ _) (Blk.new w7 _ _) rfl ?_;intro w8 hb8 hg8;have K8:=hide hb8;have HB8:=hide (zef HB7.out (Nat.le_refl _) _ hg8 (Nat.le_refl _));have HV8:=hide (zkU HV7.out _ hg8);clear hb8 hg8)
   | (with_reducible refine zaI rfl (.tmp 11) rfl w7.heap.size rfl K8.out (zbZ _) ?_)
   | (refine zeD rfl (.tmp 38) (.tmp 39) (.tmp 40) (.tmp 41) (.tmp 42) rfl (zbZ P.1) rfl rfl rfl rfl rfl ?_)
   | (refine zbv rfl (.tmp 2) (.tmp 43) rfl w.heap.size rfl rfl (zbZ _) rfl (HN.out.over HB8.out) (zcg false 0 0 0 _ zbb) ?_;intro w9 hb9 hg9;have K9:=hide hb9;have HV9:=hide (zcE HV8.out hg9 hs5);have HB9:=hide ((zaa W0.out HB8.out (Nat.le_refl _)).grown hg9 (Nat.le_trans W0.out.size HB8.out.size) (fun q hq=>by injection hq with hq;omega));clear hb9 hg9))
  refine zoU (p:=2) rfl rfl K9.out (zbZ _) rfl ?_
  exact ⟨_,_,rfl,zaA HV9.out hz6.out,HB9.out⟩
open Go.RowKit
theorem zto (w:World) (lo hi lo' hi' n m c d:Nat) (A B:Option Addr) (xs ys:List UInt8) (hA:At w lo hi A n xs) (hB:At w lo' hi' B m ys) :
  Calls Tryz.prog 18 #[.slice A n c,.slice B m d] w fun e w'=>e = .returned (.bool (decide (xs=ys)))∧w=w':=by
 have tX:=hA.text (P:=Tryz.prog) 22 5 Tryz.underlying22 Tryz.underlying5 c 9 Tryz.underlying9
 have tY:=hB.text (P:=Tryz.prog) 22 5 Tryz.underlying22 Tryz.underlying5 d 9 Tryz.underlying9
 clear hA hB
 have hb:(xs==ys)=decide (xs=ys):=by rw [Bool.eq_iff_iff];simp
 have HB:=hide hb
 clear hb
 go_enter Tryz.func18,Tryz.ntmps18
 go_wp2
 go_ret
 rw [← HB.out]
 exact ⟨rfl,rfl⟩
theorem zqh (w:World) (lo hi:Nat) (A:Option Addr) (n c:Nat) (b:List UInt8) (hA:At w lo hi A n b) (hh:hi≤w.heap.size) (hn:n≤140737488351232) :
  Calls Tryz.prog 196 #[.slice A n c] w fun e w'=>∃ A' c',e = .returned (.tuple #[.agg (tunC (zci b).leaf (zci b).k (zci b).l (zci b).s (zci b).bs (.slice A' (zci b).id.length c')),.int .i64 (zo4 b)]) ∧
   w'.ownsRow w.heap.size 5 1 (.slice A' (zci b).id.length c') (zci b).id.length (bvs (zci b).id)∧Below w.heap.size w w':=by
 have HN:=hide (Blk.new w 157 zlE)
 have W0:Hid (Below w.heap.size w (w.alloc (.cells zlE 157))):=hide ((Below.refl _ _).alloc (Nat.le_refl _) _)
 have hz:=hide (Nat.le_trans hh W0.out.size)
 have HA:=hide (hA.alloc hh (.cells zlE 157))
 obtain ⟨T,hT⟩:∃ T,zfv b=T:=⟨_,rfl⟩
 have HTB:Hid (T.bs.length=16):=hide (by rw [← hT];exact zoZ b)
 have HPB:Hid (zkd b=(zcu T&&decide (ze9 T=b))):=hide (by unfold zkd;rw [hT])
 have HPT:Hid (∀ q,zkd b=q→zci b=(if q then T else zva)∧zo4 b=if q then 0 else 4):=hide (by rintro q rfl;unfold zci zo4;rw [hT];exact ⟨rfl,rfl⟩)
 have HT:=hide hT
 clear hT hA
 go_enter Tryz.func196,Tryz.ntmps196
 go_wp2_with fail
 refine (zse _ lo hi A n c b HA.out hz.out (Nat.le_trans hn (by decide))).mono ?_
 rw [HT.out]
 rintro e w1 ⟨A1,c1,rfl,ho1,hb1⟩
 obtain ⟨lf,k,l,s,bs,id⟩:=T
 have HO1:=hide ho1
 have HB1:=hide hb1
 have hc1:id.length≤c1:=by
  obtain ⟨_,_,hs,h,_⟩:=zag ho1
  injection hs with _ _ h3
  rw [h3]
  exact h
 clear ho1 hb1
 go_wp2_with (first
  | (refine zbv rfl (.tmp 4) (.tmp 8) rfl w1.heap.size rfl rfl HTB.out rfl (Blk.new w1 _ _) rfl ?_;intro w2 hb2 hg2;have K2:=hide hb2;have HB2:=hide (zef HB1.out (Nat.le_refl _) _ hg2 (Nat.le_refl _));have HO2:=hide (zkU HO1.out _ hg2);clear hb2 hg2)
  | (with_reducible refine zbF rfl (.tmp 4) rfl w1.heap.size rfl K2.out HTB.out ?_))
 have AO2:=hide ((At.own HO2.out).more (Nat.zero_le _) (Nat.le_refl _))
 by_cases hr:zcu ⟨lf,k,l,s,bs,id⟩=true
 ·refine (zkm w2 lf k l s bs A1 id.length c1 w2.heap.size id AO2.out (Nat.le_refl _) HTB.out hc1 hr).mono ?_
  rintro e w3 ⟨v3,rfl,ho3,hb3⟩
  obtain ⟨A3,c3,rfl,_,_⟩:=zag ho3
  have HO3:=hide ho3
  have K3:=hide (K2.out.over hb3)
  have HB3:=hide (zaa HB2.out hb3 (Nat.le_refl _))
  have HX3:=hide (za6 HO2.out hb3)
  have HA3:=hide (HA.out.below (HB3.out.mono hz.out))
  obtain ⟨r,hrr⟩:∃ r,decide (ze9 ⟨lf,k,l,s,bs,id⟩=b)=r:=⟨_,rfl⟩
  have HQ:=hide (HPT.out r (by rw [HPB.out,hr,hrr];cases r <;> rfl))
  have HRR:=hide hrr
  clear ho3 hb3 hrr hr hc1
  go_wp2_with fail
  refine (zto w3 _ _ lo hi _ n c3 c A3 A _ b (At.own HO3.out) HA3.out).mono ?_
  rw [HRR.out]
  rintro e w4 ⟨rfl,rfl⟩
  cases r
  ·go_wp2_with (refine zbv rfl (.tmp 2) (.tmp 22) rfl w.heap.size rfl (congrArg Value.agg zij).symm zbb rfl (HN.out.over HB3.out) (zcg false 0 0 0 _ zbb) ?_;intro w5 hb5 hg5;have K5:=hide hb5;have HB5:=hide ((zaa W0.out HB3.out (Nat.le_refl _)).grown hg5 (Nat.le_trans W0.out.size HB3.out.size) (fun q hq=>by injection hq with hq;omega));clear hb5 hg5)
   refine zkL (p:=2) (q:=3) (u:=.int .i64 4) rfl rfl rfl K5.out zbb rfl ?_
   rw [HQ.out.1,HQ.out.2]
   exact ⟨none,0,rfl,by simpa [zva,bvs] using World.ownsRow_nil _ _ _ _,HB5.out⟩
  ·go_wp2_with (first
    | (with_reducible refine zbF rfl (.tmp 4) rfl w1.heap.size rfl K3.out HTB.out ?_)
    | (refine zbv rfl (.tmp 2) (.tmp 23) rfl w.heap.size rfl rfl HTB.out rfl (HN.out.over HB3.out) (zcg false 0 0 0 _ zbb) ?_;intro w5 hb5 hg5;have K5:=hide hb5;have HX5:=hide (zcE HX3.out hg5 (by simp));have HB5:=hide ((zaa W0.out HB3.out (Nat.le_refl _)).grown hg5 (Nat.le_trans W0.out.size HB3.out.size) (fun q hq=>by injection hq with hq;omega));clear hb5 hg5))
   refine zkL (p:=2) (q:=3) (u:=.int .i64 0) rfl rfl rfl K5.out HTB.out rfl ?_
   rw [HQ.out.1,HQ.out.2]
   exact ⟨_,_,rfl,zaA HX5.out W0.out.size,HB5.out⟩
 ·have hr':zcu ⟨lf,k,l,s,bs,id⟩=false:=by simpa using hr
  refine (ztB w2 lf k l s bs A1 id.length c1 w2.heap.size id AO2.out (Nat.le_refl _) HTB.out hr').mono ?_
  rintro e w3 ⟨rfl,hb3⟩
  have HB3:=hide (zaa HB2.out hb3 (Nat.le_refl _))
  have HQ:=hide (HPT.out false (by rw [HPB.out,hr'];rfl))
  clear hb3 hr hr' hc1
  go_wp2_with (refine zbv rfl (.tmp 2) (.tmp 22) rfl w.heap.size rfl (congrArg Value.agg zij).symm zbb rfl (HN.out.over HB3.out) (zcg false 0 0 0 _ zbb) ?_;intro w5 hb5 hg5;have K5:=hide hb5;have HB5:=hide ((zaa W0.out HB3.out (Nat.le_refl _)).grown hg5 (Nat.le_trans W0.out.size HB3.out.size) (fun q hq=>by injection hq with hq;omega));clear hb5 hg5)
  refine zkL (p:=2) (q:=3) (u:=.int .i64 4) rfl rfl rfl K5.out zbb rfl ?_
  rw [HQ.out.1,HQ.out.2]
  exact ⟨none,0,rfl,by simpa [zva,bvs] using World.ownsRow_nil _ _ _ _,HB5.out⟩
end
section
open Go.RowKit
theorem zwy:∃ z:Value,z.cells.size=21∧∀ w,(zeroValue 157).run Tryz.prog w = .ok z w:=⟨_,by kernel_rfl,Tryz.zeroValue157⟩
theorem zjD {o:Oper} {a:Act} (w:World) (x:Operand) (ho:o.op = .buildSlice 47 1 #[(0,x)]) {X:TnP} (hl:X.bs.length=16) (ex:a.eval x = .agg (tnC X)) :
  (execOp a.eval o).run Tryz.prog w = .ok (.value (.slice (some ⟨w.heap.size,0,none⟩) 1 1)) (w.alloc (.cells (tnC X) 157)):=by
 obtain ⟨z,hz,hz2⟩:=zwy
 have h:=zbx (P:=Tryz.prog) w 47 157 (tnC X) z Tryz.underlying47 (fun w=>Tryz.sizeOf157 w) hz2 hz (zcg X.lf X.k X.l X.s _ hl) (by decide) (by decide)
 unfold execOp
 simp only [ho,List.map_toArray,List.map_cons,List.map_nil,ex,Sem.run_bind,h,Result.andThen_ok,Sem.run_pure]
end
section
open Go.RowKit
theorem zvo:(Tryz.prog.info? 3).map (fun i=>(i.zero.map (·.cells.size),i.size,i.bytes))=some (some 1,1,8):=by kernel_rfl
theorem zs7:∃ (i:TypeInfo) (z:Value),Tryz.prog.info? 3=some i∧i.zero=some z∧i.size=1∧i.bytes=8∧z.cells.size=1:=by
 have h:=zvo
 cases hq:Tryz.prog.info? 3 with
 | none=>rw [hq] at h;cases h
 | some i =>
  rw [hq] at h
  simp only [Option.map_some,Option.some.injEq,Prod.mk.injEq] at h
  cases hz:i.zero with
  | none=>rw [hz] at h;simp at h
  | some z =>
   rw [hz] at h
   simp at h
   exact ⟨i,z,rfl,hz,h.2.1,h.2.2,h.1⟩
theorem zeu {o:Oper} {a:Act} (w:World) (x:Operand) (ho:o.op = .buildSlice 150 1 #[(0,x)]) {s:Int} (ex:a.eval x = .int .i64 s) :
  (execOp a.eval o).run Tryz.prog w = .ok (.value (.slice (some ⟨w.heap.size,0,none⟩) 1 1)) (w.alloc (.cells #[.int .i64 s] 3)):=by
 have hz:∀ w,(zeroValue 3).run Tryz.prog w = .ok (.int .i64 0) w:=Tryz.zeroValue3
 have hf:Instr.fill (fun i=>some (i*1,1)) ((Array.range (1*1)).map fun i=>(Value.int .i64 0).cells[i%(Value.int .i64 0).cells.size]!) [(0,.int .i64 s)]=some #[.int .i64 s]:=by kernel_rfl
 have h:(Instr.buildSlice 150 1 #[(0,.int .i64 s)]).run Tryz.prog w = .ok (.slice (some ⟨w.heap.size,0,none⟩) 1 1) (w.alloc (.cells #[.int .i64 s] 3)):=by
  unfold Instr.buildSlice
  rw [Sem.run_bind,run_underlying Tryz.underlying150,Result.andThen_ok]
  simp only [Sem.run_bind,Tryz.sizeOf3,Result.andThen_ok]
  rw [if_neg (by decide),if_neg (by decide)]
  simp only [Sem.run_bind,hz,Result.andThen_ok,Sem.run_pure]
  rw [hf]
  rfl
 unfold execOp
 simp only [ho,List.map_toArray,List.map_cons,List.map_nil,ex,Sem.run_bind,h,Result.andThen_ok,Sem.run_pure]
theorem zgg (w:World) (base:Nat) (ty:TypeId) (v:Value) (n:Nat) (xs:List Int) (hown:w.ownsRow base 3 1 v n (zaX inL xs)) (lo hi':Nat) (A:Option Addr) (m c:Nat) (news:List Int) (hr:AtG inL w lo hi' A m news)
  (hb:n+m≤1000000000000) (hbase:base≤w.heap.size) :
  ∃ v' w',(Builtin.append_ #[150,150] ty #[v,.slice A m c]).run Tryz.prog w = .ok v' w'∧w'.ownsRow base 3 1 v' (n+m) (zaX inL (xs++news))∧w.grownBy w' v.ownBlock∧(v'.ownBlock=v.ownBlock∨v'.ownBlock=some w.heap.size):=by
 obtain ⟨i,z,hi,hz,h1,h2,h3⟩:=zs7
 exact zbL (P:=Tryz.prog) w base 150 ty 3 i z 8 Tryz.underlying150 hi hz h1 h2 h3 (by decide) v n xs hown lo hi' A m c news hr (fun y hy=>zg2 y) (fun y hy u hu=>by rw [List.mem_singleton.1 hu];rfl) (by omega) (by unfold maxLen;omega) hbase
section
variable {w x y:World} {lo g q m k c:Nat} {set:Bool} {A:Option Addr} {l:List Int} {rest rest':List UInt8}
end
open Go.RowKit
def SgP.val (x:SgP):Value:=.slice x.A x.n x.c
section
variable {P:Program} {ops:Array Oper} {Q:Exit→Act→World→Prop} {md:Region.Mode} {S:World→Prop} {fuel:Nat} {listed:Array Bool} {a:Act} {w:World} {i:Nat} {o:Oper}
theorem ziI {j:Nat} {o':Oper} {v v':Value} {w1 w2:World} (hi:ops.toList[i]?=some o) (hj:ops.toList[j]?=some o') (hr:Region.ready md ops listed=[i,j])
  (hw:Region.wanted o (yielded ops a.tmps)=true) (hw':Region.wanted o' (yielded ops a.tmps)=true)
  (hrun:(execOp a.eval o).run P w = .ok (.value v) w1) (hS1:S w1) (hrun':(execOp a.eval o').run P w = .ok (.value v') w2) (hS2:S w2)
  (h:S w1→wpAnyH P md ops Q S fuel (listed.setIfInBounds i true) (a.put o.dst v) w1)
  (h':S w2→wpAnyH P md ops Q S fuel (listed.setIfInBounds j true) (a.put o'.dst v') w2):wpAnyH P md ops Q S (fuel+1) listed a w:=by
 refine wpAnyH_ready hr (by simp) (AllReadyH.cons (zbq hi) (fun K hK=>?_) (AllReadyH.cons (zbq hj) (fun K hK=>?_) AllReadyH.nil))
 ·rw [if_pos hw]
  unfold Oper.wp
  rw [hrun]
  exact hK.out _ _ hS1 h
 ·rw [if_pos hw']
  unfold Oper.wp
  rw [hrun']
  exact hK.out _ _ hS2 h'
end
theorem ze5 {o:Oper} {a:Act} {w:World} {g i:Nat} {v:Value} (x:Operand) (ho:o.op = .load 150 x) (hx:a.eval x = .pointer (some ⟨g,i,none⟩)) (h:w.cell? ⟨g,i,none⟩=some v) :
  (execOp a.eval o).run Tryz.prog w = .ok (.value v) w:=by
 unfold execOp
 simp only [ho,hx]
 go_simp
theorem zxj {fn:Func} {R:Ending→World→Prop} {a:Act} {w:World} {p:Tmp} {g:Nat} {t:TypeId} {x:SgP} (hf:fn.results=#[.cell p 152])
  (hp:a.tmps.getD p undef = .pointer (some ⟨g,0,none⟩)) (h:Blk w g t (sgC x)) (hd:a.defers=[]) (hR:R (.returned (.agg (sgC x))) w) :
  bodyPost Tryz.prog fn R .ret a w:=by
 refine bodyPost_ret (v:=.agg (sgC x)) ?_ hd hR
 have hp':a.tmps[p]?.getD undef = .pointer (some ⟨g,0,none⟩):=by simpa using hp
 have hl:=run_loadVar_mid w g 0 152 (sgL x) _ (zah (l:=sgL x) h) Tryz.underlying152 rfl (zoF x)
 simp [results,hf,hp',asAddr,hl,sgC]
section
variable {w u w5:World} {lo g q m k c c5:Nat} {set:Bool} {A A5:Option Addr} {l l':List Int} {rest:List UInt8}
end
open Go.RowKit
structure zcd (w:World) (base:Nat) (v:Value) (xs:List SgP):Prop where
 row:w.ownsRow base 152 2 v xs.length (zaX sgL xs)
 val:∀ x∈xs,w.ownsRow base 3 1 x.val x.n (zaX inL x.xs)
 vr:∀ x∈xs,x.val.ownBlock=none∨x.val.ownBlock≠v.ownBlock
 len:∀ x∈xs,x.xs.length=x.n
section
variable {w w':World} {base:Nat} {v:Value} {xs:List SgP}
theorem zcd.nil (w:World) (base:Nat):zcd w base (.slice none 0 0) [] :=
 ⟨World.ownsRow_nil _ _ _ _,fun x hx=>(by cases hx),fun x hx=>(by cases hx),fun x hx=>(by cases hx)⟩
theorem zcd.over (h:zcd w base v xs) (hb:Below w.heap.size w w'):zcd w' base v xs :=
 ⟨za8 h.row hb,fun x hx=>za8 (h.val x hx) hb,h.vr,h.len⟩
theorem zcd.grown (h:zcd w base v xs) {g:Nat} (hg:w.grownBy w' (some g)) (hlt:g<base):zcd w' base v xs:=by
 have hne:∀ {u:Value} {e:TypeId} {sz n:Nat} {l:List Value},w.ownsRow base e sz u n l→u.ownBlock=none∨u.ownBlock≠some g:=fun {u e sz n l} hu=>by
  cases h9:u.ownBlock with
  | none=>exact .inl rfl
  | some b=>exact .inr (fun e=>by injection e with e;have:=(hu.lt b h9).1;omega)
 exact ⟨zbW h.row hg (hne h.row),fun x hx=>zbW (h.val x hx) hg (hne (h.val x hx)),h.vr,h.len⟩
theorem zcd.at_ {A:Option Addr} {n c:Nat} (h:zcd w base (.slice A n c) xs) (hn:xs.length=n):RowE sgL mS wS w base w.heap.size A n xs:=by
 have h1:=h.row
 rw [hn] at h1
 refine ⟨AtG.own (fun x _=>zfQ x) hn h1,fun x hx=>?_,fun x hx=>trivial⟩
 have h2:=h.val x hx
 obtain ⟨A2,c2,h3,h4,_⟩:=zaQ h2
 unfold SgP.val at h3
 injection h3 with _ _ h5
 exact ⟨AtG.own (fun y _=>zg2 y) (h.len x hx) h2,by omega⟩
theorem zcd.push {x:SgP} {v':Value} (h:zcd w base v xs) (hx:w.ownsRow base 3 1 x.val x.n (zaX inL x.xs)) (hl:x.xs.length=x.n) (hf:x.val.ownBlock=none∨x.val.ownBlock≠v.ownBlock)
  (hrow:w'.ownsRow base 152 2 v' (xs.length+1) (zaX sgL (xs++[x]))) (hg:w.grownBy w' v.ownBlock) (hb:v'.ownBlock=v.ownBlock∨v'.ownBlock=some w.heap.size):zcd w' base v' (xs++[x]):=by
 have hmem:∀ y:SgP,y∈xs++[x]→y∈xs∨y=x:=fun y hy=>by
  rcases List.mem_append.1 hy with h1 | h1
  ·exact .inl h1
  ·exact .inr (List.mem_singleton.1 h1)
 have hvr:∀ y:SgP,(y∈xs∨y=x)→y.val.ownBlock=none∨y.val.ownBlock≠v.ownBlock:=fun y hy=>by
  rcases hy with hy | rfl
  ·exact h.vr y hy
  ·exact hf
 have hown:∀ y:SgP,(y∈xs∨y=x)→w.ownsRow base 3 1 y.val y.n (zaX inL y.xs):=fun y hy=>by
  rcases hy with hy | rfl
  ·exact h.val y hy
  ·exact hx
 refine ⟨by rw [List.length_append];exact hrow,fun y hy=>zbW (hown y (hmem y hy)) hg (hvr y (hmem y hy)),fun y hy=>?_,fun y hy=>?_⟩
 ·rcases hb with hb | hb
  ·rw [hb]
   exact hvr y (hmem y hy)
  ·cases h9:y.val.ownBlock with
   | none=>exact .inl rfl
   | some b =>
    refine .inr (fun e=>?_)
    rw [hb] at e
    injection e with e
    have h2:=((hown y (hmem y hy)).lt b h9).2
    omega
 ·rcases hmem y hy with hy | rfl
  ·exact h.len y hy
  ·exact hl
end
theorem zw1:(Tryz.prog.info? 152).map (fun i=>(i.zero.map (·.cells.size),i.size,i.bytes))=some (some 2,2,32):=by kernel_rfl
theorem zuw:∃ (i:TypeInfo) (z:Value),Tryz.prog.info? 152=some i∧i.zero=some z∧i.size=2∧i.bytes=32∧z.cells.size=2:=by
 have h:=zw1
 cases hq:Tryz.prog.info? 152 with
 | none=>rw [hq] at h;cases h
 | some i =>
  rw [hq] at h
  simp only [Option.map_some,Option.some.injEq,Prod.mk.injEq] at h
  cases hz:i.zero with
  | none=>rw [hz] at h;simp at h
  | some z =>
   rw [hz] at h
   simp at h
   exact ⟨i,z,rfl,hz,h.2.1,h.2.2,h.1⟩
theorem zwz:∃ z:Value,z.cells.size=2∧∀ w,(zeroValue 152).run Tryz.prog w = .ok z w:=⟨_,by kernel_rfl,Tryz.zeroValue152⟩
theorem zjE {o:Oper} {a:Act} (w:World) (x:Operand) (ho:o.op = .buildSlice 44 1 #[(0,x)]) {X:SgP} (ex:a.eval x = .agg (sgC X)) :
  (execOp a.eval o).run Tryz.prog w = .ok (.value (.slice (some ⟨w.heap.size,0,none⟩) 1 1)) (w.alloc (.cells (sgC X) 152)):=by
 obtain ⟨z,hz,hz2⟩:=zwz
 have h:=zbx (P:=Tryz.prog) w 44 152 (sgC X) z Tryz.underlying44 (fun w=>Tryz.sizeOf152 w) hz2 hz rfl (by decide) (by decide)
 unfold execOp
 simp only [ho,List.map_toArray,List.map_cons,List.map_nil,ex,Sem.run_bind,h,Result.andThen_ok,Sem.run_pure]
theorem zw2 (x:SgP):∀ u∈sgL x,u.oneCell'=true:=fun u hu=>by
 simp only [sgL,List.mem_cons,List.not_mem_nil,or_false] at hu
 rcases hu with rfl | rfl <;> rfl
theorem zsq (w:World) (base:Nat) (ty:TypeId) (v:Value) (k:Nat) (xs:List SgP) (hk:xs.length=k) (h:zcd w base v xs) (x:SgP) (hx:w.ownsRow base 3 1 x.val x.n (zaX inL x.xs)) (hl:x.xs.length=x.n) (hf:x.val.ownBlock=none∨x.val.ownBlock≠v.ownBlock) (lo hi':Nat) (A:Option Addr) (c:Nat) (hr:AtG sgL w lo hi' A 1 [x])
  (hb:k+1≤1000000000000) (hbase:base≤w.heap.size) :
  ∃ v' w',(Builtin.append_ #[44,44] ty #[v,.slice A 1 c]).run Tryz.prog w = .ok v' w'∧zcd w' base v' (xs++[x])∧w.grownBy w' v.ownBlock∧(v'.ownBlock=v.ownBlock∨v'.ownBlock=some w.heap.size):=by
 obtain ⟨i,z,hi,hz,h1,h2,h3⟩:=zuw
 obtain ⟨v',w',q1,q2,q3,q4⟩:=zbL (P:=Tryz.prog) w base 44 ty 152 i z 32 Tryz.underlying44 hi hz h1 h2 h3 (by decide) v k xs (by rw [← hk];exact h.row) lo hi' A 1 c [x] hr (fun y hy=>zfQ y) (fun y hy=>zw2 y) (by omega) (by unfold maxLen;omega) hbase
 exact ⟨v',w',q1,h.push hx hl hf (by rw [hk];exact q2) q3 q4,q3,q4⟩
end
end Go.Proofs.YtjindligkhdddaaGreatDoor
