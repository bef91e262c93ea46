/-
  What keyed, rightFlow, rightFrom, rightKey and Right of package mroute do, in whatever memory. The one condition beyond sizes that fit memory: the program's table holds what its text lays.
  What rightFrom, rightKey and Right of package mroute do, in whatever memory. The one condition beyond sizes that fit memory: the program's table holds what its text lays.
  What rightKey and Right of package mroute do, in whatever memory. The one condition beyond sizes that fit memory: the program's table holds what its text lays.
  What Bytes, Compare, Leaf, Take and Parse of package mroute do, in whatever memory. The one condition beyond sizes that fit memory: the program's table holds what its text lays.
  What Leaf and ofSize of package mroute do, in whatever memory. The one condition beyond sizes that fit memory: the program's table holds what its text lays.
-/
import Derived.Test.YtplpglfjcieloaaGreatDoorKSAY
set_option linter.unusedVariables false
set_option linter.unusedSimpArgs false
namespace Go.Proofs.YtplpglfjcieloaaGreatDoor
open Tryz
section
set_option maxRecDepth 20000
open Go.RowKit
theorem zfG {m:Mr} (w:m.W) {x:World} {g:Nat} {t:TypeId} (h:Blk x g t (mroC m)):x.cell? ⟨g,10,none⟩=some (.int .i64 m.ss):=zyb w h 0 _ rfl
theorem zfH {m:Mr} (w:m.W) {x:World} {g:Nat} {t:TypeId} (h:Blk x g t (mroC m)):x.cell? ⟨g,27,none⟩=some (.int .i64 m.gs):=zyc w h 0 _ rfl
theorem zkC {m:Mr} (w:m.W) {x:World} {g:Nat} {t:TypeId} (h:Blk x g t (mroC m)):x.cell? ⟨g,44,none⟩=some (.int .i64 m.fs):=mro_f w h 0 _ rfl
theorem zb4 {m:Mr} {x:World} {g:Nat} {t:TypeId} (h:Blk x g t (mroC m)):x.cell? ⟨g,0,none⟩=some (.int .i64 m.k):=(h.cell 0).trans zfb
set_option maxHeartbeats 1000000 in
theorem zgK (w:World) (m:Mr) (hm:m.W) (hkey:m.key.length≤140737488351232) (hN:za1 w) :
  Calls prog 210 #[.agg (mroC m)] w fun e w'=>e = .returned (.agg (mroC (zbR m.key)))∧Below w.heap.size w w':=by
 have HW:=hD (zdd m.key).w
 have k61:=zlv hm
 have RES:Hid (Blk ((w.alloc (.cells (mroC m) 186)).alloc (.cells zMro 186)) (w.heap.size+1) 186 (mroC (zc3 0))):=hD (by rw [zkL];exact zdf w _ _ _)
 have B1:=(Below.refl w.heap.size w).alloc lr (.cells (mroC m) 186)
 have W0:=hD (B1.alloc B1.size (.cells zMro 186))
 clear B1
 have HN:=hD (hN.below W0.o)
 have HSZ:Hid (((w.alloc (.cells (mroC m) 186)).alloc (.cells zMro 186)).heap.size=w.heap.size+2):=hD (by rw [World.size_alloc,World.size_alloc])
 clear hm hN
 go_enter func210,ntmps210
 go_wp2_with ((with_reducible refine zeQ rfl (.tmp 4) rfl m.key rfl ?_);intro c w1 hc ha hb;rw [HSZ.o] at ha;rw [HSZ.o];have HA:=hD ha;have RES1:=hD (RES.o.over hb);have W1:=hD (zaa W0.o hb lr);have N1:=hD (HN.o.below hb);have hs1:=hb.size;clear ha hb RES W0 HN;refine Hid.o ?_)
 refine hD ?_
 go_wp2_with fail
 refine (zgh w1 _ _ _ _ _ m.key HA.o lr (by omega) N1.o).mono ?_
 rintro e w2 ⟨rfl,hb2⟩
 have RES2:=hD (RES1.o.over hb2)
 have W2:=hD (zaa W1.o hb2 lr)
 clear hb2
 go_wp2_with (refine zar rfl (.tmp 2) (.tmp 6) rfl (w.heap.size+1) rfl (m:=zbR m.key) rfl HW.o RES2.o (zbg (zbS 0)) ?_;intro w9 hb9 hg9;have M9:=hD hb9;have HG9:=hD hg9;clear hb9 hg9;refine Hid.o ?_)
 refine hD ?_
 go_wp2
 refine zpg (p:=2) rfl rfl M9.o HW.o rfl ?_
 exact ⟨rfl,W2.o.grown HG9.o W2.o.size (by simp)⟩
set_option maxHeartbeats 2000000 in
theorem zdv (w:World) (m:Mr) (hm:m.W) (hN:za1 w) :
  Calls prog 196 #[.agg (mroC m)] w fun e w'=>e = .returned (.bool (zjn m))∧Below w.heap.size w w':=by
 have HB:=hD (Blk.new w 186 (mroC m))
 have HM:=hD hm
 have W0:=hD ((Below.refl w.heap.size w).alloc lr (.cells (mroC m) 186))
 have HN:=hD (hN.below W0.o)
 have k10:(mroC m)[10]?=some (.int .i64 m.ss):=(HB.o.cell 10).symm.trans (zfG hm HB.o)
 have k27:(mroC m)[27]?=some (.int .i64 m.gs):=(HB.o.cell 27).symm.trans (zfH hm HB.o)
 have k44:(mroC m)[44]?=some (.int .i64 m.fs):=(HB.o.cell 44).symm.trans (zkC hm HB.o)
 have k0:(mroC m)[0]?=some (.int .i64 m.k):=zfb
 have HD:Hid (Below w.heap.size w (w.alloc (.cells (mroC m) 186)).drew):=hD (zaj W0.o)
 obtain ⟨r,hr⟩:∃ r,r=zjn m:=⟨_,rfl⟩
 have hf:=hr
 unfold zjn at hf
 rw [← hr]
 clear hm hN hr
 have HF:=hD hf
 clear hf
 go_enter func196,ntmps196
 go_wp2_with fail
 refine wp_region_held_drew (S:=fun x=>Blk x w.heap.size 186 (mroC m)) (by kernel_rfl) HB.o.drew (fun hHeld=>?_)
 refine rgT 0 ?_
 refine rgT 1 ?_
 refine rgK 2 (fun w' hSw=>(hSw.cell 10).trans k10) ?_
 refine rgT 3 ?_
 refine rgT 4 ?_
 refine rgK 5 (fun w' hSw=>(hSw.cell 27).trans k27) ?_
 refine rgT 6 ?_
 refine rgT 7 ?_
 refine wpAnyH_done (by kernel_rfl) ?_ _
 have HB1:=hD hHeld
 have HN1:Hid (za1 (w.alloc (.cells (mroC m) 186)).drew):=hD HN.o
 generalize (w.alloc (.cells (mroC m) 186)).drew=w1 at hHeld HD HB1 HN1 ⊢
 clear hHeld HN HB W0
 have k10:=zfG HM.o HB1.o
 have k27:=zfH HM.o HB1.o
 have ha10:Hid (w1.rangeAt w.heap.size 10 (.int .i64 m.ss::bvs m.sb)):=hD (zyb HM.o HB1.o)
 go_wp2_with (with_reducible refine zaM rfl (.tmp 11) rfl w.heap.size 10 rfl ha10.o HM.o.sb ?_)
 refine (zdy w1 m.ss m.sb HM.o.sb).mono ?_
 rintro e w2 ⟨rfl,hb2⟩
 have B2:=hD (HB1.o.over hb2)
 have N2:=hD (HN1.o.below hb2)
 have W2:=hD (HD.o.trans (hb2.mono HD.o.size))
 have k0':=zb4 B2.o
 have ha27:Hid (w2.rangeAt w.heap.size 27 (.int .i64 m.gs::bvs m.gb)):=hD (zyc HM.o B2.o)
 clear hb2 k10 k27 ha10
 cases c1:zcw m.ss m.sb
 ·rw [c1] at HF
  have hlast:∀ {w3:World},Blk w3 w.heap.size 186 (mroC m)→za1 w3→Below w.heap.size w w3→True:=fun _ _ _=>trivial
  by_cases hg:0<m.gs
  ·have hgd:decide (0<m.gs)=true:=decide_eq_true hg
   go_wp2_with ((with_reducible refine zaM ?_ (.tmp 18) rfl w.heap.size 27 rfl ha27.o HM.o.gb ?_);· rfl)
   refine (zdy w2 m.gs m.gb HM.o.gb).mono ?_
   rintro e w3 ⟨rfl,hb3⟩
   have B3:=hD (B2.o.over hb3)
   have N3:=hD (N2.o.below hb3)
   have W3:=hD (W2.o.trans (hb3.mono W2.o.size))
   have k03:=zb4 B3.o
   clear hb3 k0'
   cases c2:zcw m.gs m.gb
   ·obtain rfl:r=false:=by rw [HF.o,c2,hgd];rfl
    go_wp2
    go_ret
    exact ⟨rfl,W3.o⟩
   ·have hgz:¬ m.gs=0:=by omega
    have hgzb:(m.gs==0)=false:=beq_eq_false_iff_ne.2 hgz
    by_cases hs:m.ss=0
    ·have hsb:(m.ss==0)=true:=beq_iff_eq.2 hs
     by_cases hk:m.k=3
     ·obtain rfl:r=true:=by rw [HF.o,c2,hgd];simp [hs,hk]
      rw [hk] at k03
      go_wp2
      go_ret
      exact ⟨rfl,W3.o⟩
     ·obtain rfl:r=!nAd m.k:=by rw [HF.o,c2,hgd];simp [hs,hk]
      have hkb:(m.k==3)=false:=beq_eq_false_iff_ne.2 hk
      clear hs
      go_wp2_with fail
      refine (zb3 w3 m.k N3.o).mono ?_
      rintro e w4 ⟨rfl,hb4⟩
      have W4:=hD (W3.o.trans (hb4.mono W3.o.size))
      clear hb4
      go_wp2_with ((with_reducible refine zaU ?_ (.tmp 36) (.const (.int .i64 3)) rfl m.k 3 (by decide) rfl rfl (nAd m.k) rfl ?_);· rfl)
      go_ret
      exact ⟨rfl,W4.o⟩
    ·obtain rfl:r=decide (m.ss=m.gs):=by rw [HF.o,c2,hgd];simp [hs,hgz]
     have hsb:(m.ss==0)=false:=beq_eq_false_iff_ne.2 hs
     go_wp2
     go_ret
     exact ⟨rfl,W3.o⟩
  ·have hgd:decide (0<m.gs)=false:=decide_eq_false hg
   by_cases hs:m.ss=0∨m.gs=0
   ·by_cases hk:m.k=3
    ·obtain rfl:r=true:=by rw [HF.o,hgd];simp [hs,hk]
     rw [hk] at k0'
     by_cases hs0:m.ss=0
     ·have hsb:(m.ss==0)=true:=beq_iff_eq.2 hs0
      clear hs
      go_wp2
      go_ret
      exact ⟨rfl,W2.o⟩
     ·have hg0:m.gs=0:=hs.resolve_left hs0
      have hsb:(m.ss==0)=false:=beq_eq_false_iff_ne.2 hs0
      have hgb:(m.gs==0)=true:=beq_iff_eq.2 hg0
      clear hs
      go_wp2
      go_ret
      exact ⟨rfl,W2.o⟩
    ·obtain rfl:r=!nAd m.k:=by rw [HF.o,hgd];simp [hs,hk]
     have hkb:(m.k==3)=false:=beq_eq_false_iff_ne.2 hk
     by_cases hs0:m.ss=0
     ·have hsb:(m.ss==0)=true:=beq_iff_eq.2 hs0
      clear hs
      go_wp2_with fail
      refine (zb3 w2 m.k N2.o).mono ?_
      rintro e w4 ⟨rfl,hb4⟩
      have W4:=hD (W2.o.trans (hb4.mono W2.o.size))
      clear hb4
      go_wp2_with ((with_reducible refine zaU ?_ (.tmp 36) (.const (.int .i64 3)) rfl m.k 3 (by decide) rfl rfl (nAd m.k) rfl ?_);· rfl)
      go_ret
      exact ⟨rfl,W4.o⟩
     ·have hg0:m.gs=0:=hs.resolve_left hs0
      have hsb:(m.ss==0)=false:=beq_eq_false_iff_ne.2 hs0
      have hgb:(m.gs==0)=true:=beq_iff_eq.2 hg0
      clear hs
      go_wp2_with fail
      refine (zb3 w2 m.k N2.o).mono ?_
      rintro e w4 ⟨rfl,hb4⟩
      have W4:=hD (W2.o.trans (hb4.mono W2.o.size))
      clear hb4
      go_wp2_with ((with_reducible refine zaU ?_ (.tmp 36) (.const (.int .i64 3)) rfl m.k 3 (by decide) rfl rfl (nAd m.k) rfl ?_);· rfl)
      go_ret
      exact ⟨rfl,W4.o⟩
   ·have hs0:¬ m.ss=0:=fun e=>hs (.inl e)
    have hg0:¬ m.gs=0:=fun e=>hs (.inr e)
    obtain rfl:r=decide (m.ss=m.gs):=by rw [HF.o,hgd];simp [hs0,hg0]
    have hsb:(m.ss==0)=false:=beq_eq_false_iff_ne.2 hs0
    have hgb:(m.gs==0)=false:=beq_eq_false_iff_ne.2 hg0
    clear hs
    go_wp2
    go_ret
    exact ⟨rfl,W2.o⟩
 ·obtain rfl:r=false:=by rw [HF.o,c1];rfl
  go_wp2
  go_ret
  exact ⟨rfl,W2.o⟩
end
section
set_option maxRecDepth 20000
set_option maxHeartbeats 1000000
open Go.RowKit
theorem zlJ {o:Oper} {a:Act} {w:World} (x y:Operand) (ho:o.op = .index 275 x y) (k:Int) (j:Nat) (hj:j<6) (hx:a.eval x = .agg (nmC k)) (hy:a.eval y = .int .i64 (j:Int)) :
  (execOp a.eval o).run prog w = .ok (.value (.bool ((za6 k).getD j false))) w:=by
 unfold execOp
 simp only [ho,hx,hy,Sem.run_bind,zhC w k hj,Result.andThen_ok,Sem.run_pure]
def MroN (x:World) (g:Nat) (m:Mr):Prop:=Blk x g 186 (mroC m)∧za1 x
theorem MroN.over {x y:World} {g:Nat} {m:Mr} (h:MroN x g m) (hb:Below x.heap.size x y):MroN y g m:=⟨h.1.over hb,h.2.below hb⟩
theorem MroN.load {x:World} {g:Nat} {m:Mr} (h:MroN x g m) (hm:m.W) {o:Oper} {a:Act} (u:Operand) (ho:o.op = .load 186 u) (hu:a.eval u = .pointer (some ⟨g,0,none⟩)) :
  (execOp a.eval o).run prog x = .ok (.value (.agg (mroC m))) x:=zeJ u ho g hu h.1 hm
theorem zgy (w:World) (m:Mr) (hm:m.W) (hN:za1 w) :
  Calls prog 198 #[.agg (mroC m)] w fun e w'=>e = .returned (.bool (zov m))∧Below w.heap.size w w':=by
 have W0:=hD ((Below.refl w.heap.size w).alloc lr (.cells (mroC m) 186))
 have HS:Hid (MroN (w.alloc (.cells (mroC m) 186)) w.heap.size m):=hD ⟨Blk.new w _ _,hN.below W0.o⟩
 have HM:=hD hm
 have HD:Hid (Below w.heap.size w (w.alloc (.cells (mroC m) 186)).drew):=hD (zaj W0.o)
 clear hm hN
 go_enter func198,ntmps198
 go_wp2_with fail
 refine wp_region_held_drew (S:=fun x=>MroN x w.heap.size m) (by kernel_rfl) HS.o (fun hHeld=>?_)
 refine rgT 0 ?_
 refine rgK 1 (fun w' hSw=>zb4 hSw.1) ?_
 refine rgT 4 ?_
 refine rgT 5 ?_
 refine rgK 6 (fun w' hSw=>zkC HM.o hSw.1) ?_
 refine rgT 7 ?_
 refine zal (i:=2) rfl (by kernel_rfl) (by rfl) (zb3 _ m.k hHeld.2) (fun w=>by kernel_rfl) ?_
 rintro e w1 ⟨rfl,hb1⟩
 have W1:=hD (HD.o.trans (hb1.mono HD.o.size))
 refine ⟨_,rfl,hHeld.over hb1,fun hHeld=>?_⟩
 refine rgN ?_
 refine zaG (i:=3) (v:=(.bool (nFr m.k))) rfl (by kernel_rfl) (by rfl) (zlJ (.tmp 5) (.const (.int .i64 5)) rfl m.k 5 (by decide) rfl rfl) (hHeld) (fun hHeld=>?_)
 refine rgN ?_
 refine rgT 8 ?_
 refine rgT 9 ?_
 refine wpAnyH_done (by kernel_rfl) ?_ _
 go_wp2
 go_ret
 exact ⟨rfl,W1.o⟩
theorem zd9 {m:Mr} (w:m.W):(zcM m).length≤200+m.key.length:=by
 have:=zrB w 6 lr
 unfold zcM zkd
 simp only [List.length_cons]
 omega
theorem right1 (w:World) (m:Mr) (hm:m.W) (hkey:m.key.length≤140737488351232) (hN:za1 w)
  (HK:∀ x,za1 x→Calls prog 197 #[.agg (mroC m)] x fun e w'=>e = .returned (.bool (keyX m))∧Below x.heap.size x w') (c1:kwn m.k=false) :
  Calls prog 169 #[.agg (mroC m)] w fun e w'=>e = .returned (.bool (false))∧Below w.heap.size w w':=by
 have W0:=hD ((Below.refl w.heap.size w).alloc lr (.cells (mroC m) 186))
 have HS:Hid (MroN (w.alloc (.cells (mroC m) 186)) w.heap.size m):=hD ⟨Blk.new w _ _,hN.below W0.o⟩
 have HM:=hD hm
 have HD:Hid (Below w.heap.size w (w.alloc (.cells (mroC m) 186)).drew):=hD (zaj W0.o)
 have HWL:=hD (zd9 hm)
 have HKey:=hD hkey
 clear hm hN hkey
 go_enter func169,ntmps169
 go_wp2_with fail
 refine wp_region_held_drew (S:=fun x=>MroN x w.heap.size m) (by kernel_rfl) HS.o (fun hHeld=>?_)
 refine rgT 0 ?_
 refine rgK 1 (fun w' hSw=>zb4 hSw.1) ?_
 refine zal (i:=2) rfl (by kernel_rfl) (by rfl) (zfc _ m.k hHeld.2) (fun w=>by kernel_rfl) ?_
 rintro e w1 ⟨rfl,hb⟩
 have W1:=hD (HD.o.trans (hb.mono HD.o.size))
 rw [c1]
 refine ⟨_,rfl,hHeld.over hb,fun hHeld=>?_⟩
 refine rgN ?_
 clear hb
 refine rgT 3 ?_
 refine rgS 4 ?_
 refine rgS 5 ?_
 refine rgT 6 ?_
 refine rgT 7 ?_
 refine rgS 8 ?_
 refine rgS 9 ?_
 refine rgT 10 ?_
 refine rgT 11 ?_
 refine rgS 12 ?_
 refine rgS 13 ?_
 refine rgT 14 ?_
 refine rgT 15 ?_
 refine rgS 16 ?_
 refine rgS 17 ?_
 refine rgS 18 ?_
 refine rgS 19 ?_
 refine rgS 20 ?_
 refine rgT 21 ?_
 refine rgT 22 ?_
 refine wpAnyH_done (by kernel_rfl) ?_ _
 go_wp2
 go_ret
 exact ⟨rfl,W1.o⟩
theorem right2 (w:World) (m:Mr) (hm:m.W) (hkey:m.key.length≤140737488351232) (hN:za1 w)
  (HK:∀ x,za1 x→Calls prog 197 #[.agg (mroC m)] x fun e w'=>e = .returned (.bool (keyX m))∧Below x.heap.size x w') (c1:kwn m.k=true) (c2:zjn m=false) :
  Calls prog 169 #[.agg (mroC m)] w fun e w'=>e = .returned (.bool (false))∧Below w.heap.size w w':=by
 have W0:=hD ((Below.refl w.heap.size w).alloc lr (.cells (mroC m) 186))
 have HS:Hid (MroN (w.alloc (.cells (mroC m) 186)) w.heap.size m):=hD ⟨Blk.new w _ _,hN.below W0.o⟩
 have HM:=hD hm
 have HD:Hid (Below w.heap.size w (w.alloc (.cells (mroC m) 186)).drew):=hD (zaj W0.o)
 have HWL:=hD (zd9 hm)
 have HKey:=hD hkey
 clear hm hN hkey
 go_enter func169,ntmps169
 go_wp2_with fail
 refine wp_region_held_drew (S:=fun x=>MroN x w.heap.size m) (by kernel_rfl) HS.o (fun hHeld=>?_)
 refine rgT 0 ?_
 refine rgK 1 (fun w' hSw=>zb4 hSw.1) ?_
 refine zal (i:=2) rfl (by kernel_rfl) (by rfl) (zfc _ m.k hHeld.2) (fun w=>by kernel_rfl) ?_
 rintro e w1 ⟨rfl,hb⟩
 have W1:=hD (HD.o.trans (hb.mono HD.o.size))
 rw [c1]
 refine ⟨_,rfl,hHeld.over hb,fun hHeld=>?_⟩
 refine rgN ?_
 clear hb
 refine rgT 3 ?_
 refine rgV 4 (.agg (mroC m)) ?_ ?_
 ·(intro w' hSw;exact MroN.load hSw HM.o (.tmp 1) rfl rfl)
 refine zal (i:=5) rfl (by kernel_rfl) (by rfl) (zdv _ m HM.o hHeld.2) (fun w=>by kernel_rfl) ?_
 rintro e w2 ⟨rfl,hb⟩
 have W2:=hD (W1.o.trans (hb.mono W1.o.size))
 rw [c2]
 refine ⟨_,rfl,hHeld.over hb,fun hHeld=>?_⟩
 refine rgN ?_
 clear hb
 refine rgT 6 ?_
 refine rgT 7 ?_
 refine rgS 8 ?_
 refine rgS 9 ?_
 refine rgT 10 ?_
 refine rgT 11 ?_
 refine rgS 12 ?_
 refine rgS 13 ?_
 refine rgT 14 ?_
 refine rgT 15 ?_
 refine rgS 16 ?_
 refine rgS 17 ?_
 refine rgS 18 ?_
 refine rgS 19 ?_
 refine rgS 20 ?_
 refine rgT 21 ?_
 refine rgT 22 ?_
 refine wpAnyH_done (by kernel_rfl) ?_ _
 go_wp2
 go_ret
 exact ⟨rfl,W2.o⟩
theorem right3 (w:World) (m:Mr) (hm:m.W) (hkey:m.key.length≤140737488351232) (hN:za1 w)
  (HK:∀ x,za1 x→Calls prog 197 #[.agg (mroC m)] x fun e w'=>e = .returned (.bool (keyX m))∧Below x.heap.size x w') (c1:kwn m.k=true) (c2:zjn m=true) (c3:keyX m=false) :
  Calls prog 169 #[.agg (mroC m)] w fun e w'=>e = .returned (.bool (false))∧Below w.heap.size w w':=by
 have W0:=hD ((Below.refl w.heap.size w).alloc lr (.cells (mroC m) 186))
 have HS:Hid (MroN (w.alloc (.cells (mroC m) 186)) w.heap.size m):=hD ⟨Blk.new w _ _,hN.below W0.o⟩
 have HM:=hD hm
 have HD:Hid (Below w.heap.size w (w.alloc (.cells (mroC m) 186)).drew):=hD (zaj W0.o)
 have HWL:=hD (zd9 hm)
 have HKey:=hD hkey
 clear hm hN hkey
 go_enter func169,ntmps169
 go_wp2_with fail
 refine wp_region_held_drew (S:=fun x=>MroN x w.heap.size m) (by kernel_rfl) HS.o (fun hHeld=>?_)
 refine rgT 0 ?_
 refine rgK 1 (fun w' hSw=>zb4 hSw.1) ?_
 refine zal (i:=2) rfl (by kernel_rfl) (by rfl) (zfc _ m.k hHeld.2) (fun w=>by kernel_rfl) ?_
 rintro e w1 ⟨rfl,hb⟩
 have W1:=hD (HD.o.trans (hb.mono HD.o.size))
 rw [c1]
 refine ⟨_,rfl,hHeld.over hb,fun hHeld=>?_⟩
 refine rgN ?_
 clear hb
 refine rgT 3 ?_
 refine rgV 4 (.agg (mroC m)) ?_ ?_
 ·(intro w' hSw;exact MroN.load hSw HM.o (.tmp 1) rfl rfl)
 refine zal (i:=5) rfl (by kernel_rfl) (by rfl) (zdv _ m HM.o hHeld.2) (fun w=>by kernel_rfl) ?_
 rintro e w2 ⟨rfl,hb⟩
 have W2:=hD (W1.o.trans (hb.mono W1.o.size))
 rw [c2]
 refine ⟨_,rfl,hHeld.over hb,fun hHeld=>?_⟩
 refine rgN ?_
 clear hb
 refine rgT 6 ?_
 refine rgT 7 ?_
 refine rgV 8 (.agg (mroC m)) ?_ ?_
 ·(intro w' hSw;exact MroN.load hSw HM.o (.tmp 1) rfl rfl)
 refine zal (i:=9) rfl (by kernel_rfl) (by rfl) (HK _ hHeld.2) (fun w=>by kernel_rfl) ?_
 rintro e w3 ⟨rfl,hb⟩
 have W3:=hD (W2.o.trans (hb.mono W2.o.size))
 rw [c3]
 refine ⟨_,rfl,hHeld.over hb,fun hHeld=>?_⟩
 refine rgN ?_
 clear hb
 refine rgT 10 ?_
 refine rgT 11 ?_
 refine rgS 12 ?_
 refine rgS 13 ?_
 refine rgT 14 ?_
 refine rgT 15 ?_
 refine rgS 16 ?_
 refine rgS 17 ?_
 refine rgS 18 ?_
 refine rgS 19 ?_
 refine rgS 20 ?_
 refine rgT 21 ?_
 refine rgT 22 ?_
 refine wpAnyH_done (by kernel_rfl) ?_ _
 go_wp2
 go_ret
 exact ⟨rfl,W3.o⟩
theorem right4 (w:World) (m:Mr) (hm:m.W) (hkey:m.key.length≤140737488351232) (hN:za1 w)
  (HK:∀ x,za1 x→Calls prog 197 #[.agg (mroC m)] x fun e w'=>e = .returned (.bool (keyX m))∧Below x.heap.size x w') (c1:kwn m.k=true) (c2:zjn m=true) (c3:keyX m=true) (c4:zov m=false) :
  Calls prog 169 #[.agg (mroC m)] w fun e w'=>e = .returned (.bool (false))∧Below w.heap.size w w':=by
 have W0:=hD ((Below.refl w.heap.size w).alloc lr (.cells (mroC m) 186))
 have HS:Hid (MroN (w.alloc (.cells (mroC m) 186)) w.heap.size m):=hD ⟨Blk.new w _ _,hN.below W0.o⟩
 have HM:=hD hm
 have HD:Hid (Below w.heap.size w (w.alloc (.cells (mroC m) 186)).drew):=hD (zaj W0.o)
 have HWL:=hD (zd9 hm)
 have HKey:=hD hkey
 clear hm hN hkey
 go_enter func169,ntmps169
 go_wp2_with fail
 refine wp_region_held_drew (S:=fun x=>MroN x w.heap.size m) (by kernel_rfl) HS.o (fun hHeld=>?_)
 refine rgT 0 ?_
 refine rgK 1 (fun w' hSw=>zb4 hSw.1) ?_
 refine zal (i:=2) rfl (by kernel_rfl) (by rfl) (zfc _ m.k hHeld.2) (fun w=>by kernel_rfl) ?_
 rintro e w1 ⟨rfl,hb⟩
 have W1:=hD (HD.o.trans (hb.mono HD.o.size))
 rw [c1]
 refine ⟨_,rfl,hHeld.over hb,fun hHeld=>?_⟩
 refine rgN ?_
 clear hb
 refine rgT 3 ?_
 refine rgV 4 (.agg (mroC m)) ?_ ?_
 ·(intro w' hSw;exact MroN.load hSw HM.o (.tmp 1) rfl rfl)
 refine zal (i:=5) rfl (by kernel_rfl) (by rfl) (zdv _ m HM.o hHeld.2) (fun w=>by kernel_rfl) ?_
 rintro e w2 ⟨rfl,hb⟩
 have W2:=hD (W1.o.trans (hb.mono W1.o.size))
 rw [c2]
 refine ⟨_,rfl,hHeld.over hb,fun hHeld=>?_⟩
 refine rgN ?_
 clear hb
 refine rgT 6 ?_
 refine rgT 7 ?_
 refine rgV 8 (.agg (mroC m)) ?_ ?_
 ·(intro w' hSw;exact MroN.load hSw HM.o (.tmp 1) rfl rfl)
 refine zal (i:=9) rfl (by kernel_rfl) (by rfl) (HK _ hHeld.2) (fun w=>by kernel_rfl) ?_
 rintro e w3 ⟨rfl,hb⟩
 have W3:=hD (W2.o.trans (hb.mono W2.o.size))
 rw [c3]
 refine ⟨_,rfl,hHeld.over hb,fun hHeld=>?_⟩
 refine rgN ?_
 clear hb
 refine rgT 10 ?_
 refine rgT 11 ?_
 refine rgV 12 (.agg (mroC m)) ?_ ?_
 ·(intro w' hSw;exact MroN.load hSw HM.o (.tmp 1) rfl rfl)
 refine zal (i:=13) rfl (by kernel_rfl) (by rfl) (zgy _ m HM.o hHeld.2) (fun w=>by kernel_rfl) ?_
 rintro e w4 ⟨rfl,hb⟩
 have W4:=hD (W3.o.trans (hb.mono W3.o.size))
 rw [c4]
 refine ⟨_,rfl,hHeld.over hb,fun hHeld=>?_⟩
 refine rgN ?_
 clear hb
 refine rgT 14 ?_
 refine rgT 15 ?_
 refine rgS 16 ?_
 refine rgS 17 ?_
 refine rgS 18 ?_
 refine rgS 19 ?_
 refine rgS 20 ?_
 refine rgT 21 ?_
 refine rgT 22 ?_
 refine wpAnyH_done (by kernel_rfl) ?_ _
 go_wp2
 go_ret
 exact ⟨rfl,W4.o⟩
theorem right5 (w:World) (m:Mr) (hm:m.W) (hkey:m.key.length≤140737488351232) (hN:za1 w)
  (HK:∀ x,za1 x→Calls prog 197 #[.agg (mroC m)] x fun e w'=>e = .returned (.bool (keyX m))∧Below x.heap.size x w') (c1:kwn m.k=true) (c2:zjn m=true) (c3:keyX m=true) (c4:zov m=true) :
  Calls prog 169 #[.agg (mroC m)] w fun e w'=>e = .returned (.bool (zu1 m))∧Below w.heap.size w w':=by
 have W0:=hD ((Below.refl w.heap.size w).alloc lr (.cells (mroC m) 186))
 have HS:Hid (MroN (w.alloc (.cells (mroC m) 186)) w.heap.size m):=hD ⟨Blk.new w _ _,hN.below W0.o⟩
 have HM:=hD hm
 have HD:Hid (Below w.heap.size w (w.alloc (.cells (mroC m) 186)).drew):=hD (zaj W0.o)
 have HWL:=hD (zd9 hm)
 have HKey:=hD hkey
 clear hm hN hkey
 go_enter func169,ntmps169
 go_wp2_with fail
 refine wp_region_held_drew (S:=fun x=>MroN x w.heap.size m) (by kernel_rfl) HS.o (fun hHeld=>?_)
 refine rgT 0 ?_
 refine rgK 1 (fun w' hSw=>zb4 hSw.1) ?_
 refine zal (i:=2) rfl (by kernel_rfl) (by rfl) (zfc _ m.k hHeld.2) (fun w=>by kernel_rfl) ?_
 rintro e w1 ⟨rfl,hb⟩
 have W1:=hD (HD.o.trans (hb.mono HD.o.size))
 rw [c1]
 refine ⟨_,rfl,hHeld.over hb,fun hHeld=>?_⟩
 refine rgN ?_
 clear hb
 refine rgT 3 ?_
 refine rgV 4 (.agg (mroC m)) ?_ ?_
 ·(intro w' hSw;exact MroN.load hSw HM.o (.tmp 1) rfl rfl)
 refine zal (i:=5) rfl (by kernel_rfl) (by rfl) (zdv _ m HM.o hHeld.2) (fun w=>by kernel_rfl) ?_
 rintro e w2 ⟨rfl,hb⟩
 have W2:=hD (W1.o.trans (hb.mono W1.o.size))
 rw [c2]
 refine ⟨_,rfl,hHeld.over hb,fun hHeld=>?_⟩
 refine rgN ?_
 clear hb
 refine rgT 6 ?_
 refine rgT 7 ?_
 refine rgV 8 (.agg (mroC m)) ?_ ?_
 ·(intro w' hSw;exact MroN.load hSw HM.o (.tmp 1) rfl rfl)
 refine zal (i:=9) rfl (by kernel_rfl) (by rfl) (HK _ hHeld.2) (fun w=>by kernel_rfl) ?_
 rintro e w3 ⟨rfl,hb⟩
 have W3:=hD (W2.o.trans (hb.mono W2.o.size))
 rw [c3]
 refine ⟨_,rfl,hHeld.over hb,fun hHeld=>?_⟩
 refine rgN ?_
 clear hb
 refine rgT 10 ?_
 refine rgT 11 ?_
 refine rgV 12 (.agg (mroC m)) ?_ ?_
 ·(intro w' hSw;exact MroN.load hSw HM.o (.tmp 1) rfl rfl)
 refine zal (i:=13) rfl (by kernel_rfl) (by rfl) (zgy _ m HM.o hHeld.2) (fun w=>by kernel_rfl) ?_
 rintro e w4 ⟨rfl,hb⟩
 have W4:=hD (W3.o.trans (hb.mono W3.o.size))
 rw [c4]
 refine ⟨_,rfl,hHeld.over hb,fun hHeld=>?_⟩
 refine rgN ?_
 clear hb
 refine rgT 14 ?_
 refine rgT 15 ?_
 refine rgV 16 (.agg (mroC m)) ?_ ?_
 ·(intro w' hSw;exact MroN.load hSw HM.o (.tmp 1) rfl rfl)
 refine rgV 19 (.agg (mroC m)) ?_ ?_
 ·(intro w' hSw;exact MroN.load hSw HM.o (.tmp 1) rfl rfl)
 refine zal (i:=17) rfl (by kernel_rfl) (by rfl) (zil _ m HM.o c1 HKey.o hHeld.2) (fun w=>by kernel_rfl) ?_
 rintro e w5 ⟨v,rfl,ho,hb⟩
 obtain ⟨A,c,rfl,_,_⟩:=zag ho
 have W5:=hD (W4.o.trans (hb.mono W4.o.size))
 have HA:=hD (At.own ho)
 refine ⟨_,rfl,hHeld.over hb,fun hHeld=>?_⟩
 refine rgN ?_
 clear ho hb
 refine zal (i:=18) rfl (by kernel_rfl) (by rfl) (zgh _ _ _ A _ c (zcM m) HA.o lr (by have:=HWL.o;have:=HKey.o;omega) hHeld.2) (fun w=>by kernel_rfl) ?_
 rintro e w6 ⟨rfl,hb⟩
 have W6:=hD (W5.o.trans (hb.mono W5.o.size))
 refine ⟨_,rfl,hHeld.over hb,fun hHeld=>?_⟩
 refine rgN ?_
 clear hb
 refine rgV 20 (.bool (zu1 m)) ?_ ?_
 ·(intro w' hSw;exact zng (.tmp 21) (.tmp 22) rfl rfl rfl (zdd (zcM m)).w HM.o)
 refine rgT 21 ?_
 refine rgT 22 ?_
 refine wpAnyH_done (by kernel_rfl) ?_ _
 go_wp2
 go_ret
 exact ⟨rfl,W6.o⟩
theorem zpb (w:World) (m:Mr) (hm:m.W) (hkey:m.key.length≤140737488351232) (hN:za1 w)
  (HK:∀ x,za1 x→Calls prog 197 #[.agg (mroC m)] x fun e w'=>e = .returned (.bool (keyX m))∧Below x.heap.size x w') :
  Calls prog 169 #[.agg (mroC m)] w fun e w'=>e = .returned (.bool (zbh m))∧Below w.heap.size w w':=by
 rw [← znW hm]
 cases c1:kwn m.k
 ·simpa using right1 w m hm hkey hN HK c1
 cases c2:zjn m
 ·simpa using right2 w m hm hkey hN HK c1 c2
 cases c3:keyX m
 ·simpa using right3 w m hm hkey hN HK c1 c2 c3
 cases c4:zov m
 ·simpa using right4 w m hm hkey hN HK c1 c2 c3 c4
 ·simpa using right5 w m hm hkey hN HK c1 c2 c3 c4
theorem keyNo (w:World) (m:Mr) (hm:m.W) (hkey:m.key.length≤140737488351232) (hN:za1 w) (hk:m.k≠4) :
  Calls prog 197 #[.agg (mroC m)] w fun e w'=>e = .returned (.bool (keyX m))∧Below w.heap.size w w':=by
 have he:keyX m=true:=by unfold keyX;rw [if_neg hk]
 rw [he]
 have W0:=hD ((Below.refl w.heap.size w).alloc lr (.cells (mroC m) 186))
 have HB:=hD (Blk.new w 186 (mroC m))
 have HN:=hD (hN.below W0.o)
 have HM:=hD hm
 have HKey:=hD hkey
 have k0:=zfb (m:=m)
 have HK4:Hid ((za6 m.k).getD 4 false=false):=hD (decide_eq_false hk)
 clear hm hN hkey
 go_enter func197,ntmps197
 go_wp2_with fail
 refine (zb3 _ m.k HN.o).mono ?_
 rintro e w1 ⟨rfl,hb1⟩
 have W1:=hD (zaa W0.o hb1 lr)
 clear hb1
 go_wp2_with (with_reducible refine zaU rfl (.tmp 6) (.const (.int .i64 4)) rfl m.k 4 (by decide) rfl rfl _ HK4.o ?_)
 go_ret
 exact ⟨rfl,W1.o⟩
theorem ziS (w:World) (m:Mr) (hm:m.W) (hkey:m.key.length≤140737488351232) (hN:za1 w) (hk:m.k≠4) :
  Calls prog 169 #[.agg (mroC m)] w fun e w'=>e = .returned (.bool (zbh m))∧Below w.heap.size w w' :=
 zpb w m hm hkey hN (fun x hx=>keyNo x m hm hkey hx hk)
def MroT (x:World) (g:Nat) (m:Mr) (q:Nat) (r:Mr):Prop:=MroN x g m∧Blk x q 186 (mroC r)
theorem MroT.over {x y:World} {g q:Nat} {m r:Mr} (h:MroT x g m q r) (hb:Below x.heap.size x y):MroT y g m q r:=⟨h.1.over hb,h.2.over hb⟩
theorem MroT.load {x:World} {g q:Nat} {m r:Mr} (h:MroT x g m q r) (hr:r.W) {o:Oper} {a:Act} (u:Operand) (ho:o.op = .load 186 u) (hu:a.eval u = .pointer (some ⟨q,0,none⟩)) :
  (execOp a.eval o).run prog x = .ok (.value (.agg (mroC r))) x:=zeJ u ho q hu h.2 hr
end
section
set_option maxRecDepth 20000
set_option maxHeartbeats 1000000
open Go.RowKit
theorem keyA (w:World) (m:Mr) (hm:m.W) (hkey:m.key.length≤140737488351232) (hN:za1 w) (hk:m.k=4) (c1:ansK (zbR m.key).k=false) :
  Calls prog 197 #[.agg (mroC m)] w fun e w'=>e = .returned (.bool (false))∧Below w.heap.size w w':=by
 have W0:=hD ((Below.refl w.heap.size w).alloc lr (.cells (mroC m) 186))
 have HB:=hD (Blk.new w 186 (mroC m))
 have HN:=hD (hN.below W0.o)
 have HM:=hD hm
 have HKey:=hD hkey
 have k0:=zfb (m:=m)
 have HK4:Hid ((za6 m.k).getD 4 false=true):=hD (decide_eq_true hk)
 have X:=hD (zdd m.key)
 generalize hr:zbR m.key=r at *
 have HRR:=hD hr
 clear hm hN hkey hr hk
 go_enter func197,ntmps197
 go_wp2_with fail
 refine (zb3 _ m.k HN.o).mono ?_
 rintro e w1 ⟨rfl,hb1⟩
 have B1:=hD (HB.o.over hb1)
 have N1:=hD (HN.o.below hb1)
 have W1:=hD (zaa W0.o hb1 lr)
 clear hb1 HN
 go_wp2_with (first
  | (with_reducible refine zaU rfl (.tmp 6) (.const (.int .i64 4)) rfl m.k 4 (by decide) rfl rfl _ HK4.o ?_)
  | (with_reducible refine zaA rfl (.tmp 1) rfl w.heap.size rfl B1.o HM.o ?_))
 refine (zgK w1 m HM.o HKey.o N1.o).mono ?_
 rw [HRR.o]
 rintro e w2 ⟨rfl,hb2⟩
 have B2:=hD (B1.o.over hb2)
 have N2:=hD (N1.o.below hb2)
 have W2:=hD (zaa W1.o hb2 lr)
 have NEW:=hD (Blk.new w2 186 zMro)
 clear hb2
 go_wp2_with (refine zar rfl (.tmp 3) (.tmp 10) rfl w2.heap.size rfl (m:=r) rfl X.o.w NEW.o rfl ?_;intro w3 hb3 hg3;have M3:=hD hb3;have W23:Hid (Below w2.heap.size w2 w3):=hD (((Below.refl _ _).alloc lr _).grown hg3 (by simp) (by simp));clear hb3 hg3;refine Hid.o ?_)
 refine hD ?_
 clear NEW
 have HT:Hid (MroT w3 w.heap.size m w2.heap.size r):=hD ⟨⟨B2.o.over W23.o,N2.o.below W23.o⟩,M3.o⟩
 have W3:=hD (zaj (zaa W2.o W23.o lr))
 generalize w2.heap.size=q at *
 go_wp2_with fail
 refine wp_region_held_drew (S:=fun x=>MroT x w.heap.size m q r) (by kernel_rfl) HT.o (fun hHeld=>?_)
 refine rgT 0 ?_
 refine rgK 1 (fun w' hSw=>zb4 hSw.2) ?_
 refine zal (i:=2) rfl (by kernel_rfl) (by rfl) (zfo _ r.k) (fun w=>by kernel_rfl) ?_
 rw [c1]
 rintro e w4 ⟨rfl,rfl⟩
 refine ⟨_,rfl,hHeld,fun hHeld=>?_⟩
 refine rgN ?_
 refine rgT 3 ?_
 refine rgS 4 ?_
 refine rgS 5 ?_
 refine rgT 6 ?_
 refine rgT 7 ?_
 refine rgS 8 ?_
 refine rgS 9 ?_
 refine rgS 10 ?_
 refine rgS 11 ?_
 refine rgS 12 ?_
 refine rgS 13 ?_
 refine rgT 14 ?_
 refine rgT 15 ?_
 refine wpAnyH_done (by kernel_rfl) ?_ _
 go_wp2
 go_ret
 exact ⟨rfl,W3.o⟩
theorem keyB (w:World) (m:Mr) (hm:m.W) (hkey:m.key.length≤140737488351232) (hN:za1 w) (hk:m.k=4) (c1:ansK (zbR m.key).k=true) (c2:zbh (zbR m.key)=false) :
  Calls prog 197 #[.agg (mroC m)] w fun e w'=>e = .returned (.bool (false))∧Below w.heap.size w w':=by
 have W0:=hD ((Below.refl w.heap.size w).alloc lr (.cells (mroC m) 186))
 have HB:=hD (Blk.new w 186 (mroC m))
 have HN:=hD (hN.below W0.o)
 have HM:=hD hm
 have HKey:=hD hkey
 have k0:=zfb (m:=m)
 have HK4:Hid ((za6 m.k).getD 4 false=true):=hD (decide_eq_true hk)
 have X:=hD (zdd m.key)
 generalize hr:zbR m.key=r at *
 have HRR:=hD hr
 clear hm hN hkey hr hk
 go_enter func197,ntmps197
 go_wp2_with fail
 refine (zb3 _ m.k HN.o).mono ?_
 rintro e w1 ⟨rfl,hb1⟩
 have B1:=hD (HB.o.over hb1)
 have N1:=hD (HN.o.below hb1)
 have W1:=hD (zaa W0.o hb1 lr)
 clear hb1 HN
 go_wp2_with (first
  | (with_reducible refine zaU rfl (.tmp 6) (.const (.int .i64 4)) rfl m.k 4 (by decide) rfl rfl _ HK4.o ?_)
  | (with_reducible refine zaA rfl (.tmp 1) rfl w.heap.size rfl B1.o HM.o ?_))
 refine (zgK w1 m HM.o HKey.o N1.o).mono ?_
 rw [HRR.o]
 rintro e w2 ⟨rfl,hb2⟩
 have B2:=hD (B1.o.over hb2)
 have N2:=hD (N1.o.below hb2)
 have W2:=hD (zaa W1.o hb2 lr)
 have NEW:=hD (Blk.new w2 186 zMro)
 clear hb2
 go_wp2_with (refine zar rfl (.tmp 3) (.tmp 10) rfl w2.heap.size rfl (m:=r) rfl X.o.w NEW.o rfl ?_;intro w3 hb3 hg3;have M3:=hD hb3;have W23:Hid (Below w2.heap.size w2 w3):=hD (((Below.refl _ _).alloc lr _).grown hg3 (by simp) (by simp));clear hb3 hg3;refine Hid.o ?_)
 refine hD ?_
 clear NEW
 have HT:Hid (MroT w3 w.heap.size m w2.heap.size r):=hD ⟨⟨B2.o.over W23.o,N2.o.below W23.o⟩,M3.o⟩
 have W3:=hD (zaj (zaa W2.o W23.o lr))
 generalize w2.heap.size=q at *
 go_wp2_with fail
 refine wp_region_held_drew (S:=fun x=>MroT x w.heap.size m q r) (by kernel_rfl) HT.o (fun hHeld=>?_)
 refine rgT 0 ?_
 refine rgK 1 (fun w' hSw=>zb4 hSw.2) ?_
 refine zal (i:=2) rfl (by kernel_rfl) (by rfl) (zfo _ r.k) (fun w=>by kernel_rfl) ?_
 rw [c1]
 rintro e w4 ⟨rfl,rfl⟩
 refine ⟨_,rfl,hHeld,fun hHeld=>?_⟩
 refine rgN ?_
 refine rgT 3 ?_
 refine rgV 4 (.agg (mroC r)) ?_ ?_
 ·(intro w' hSw;exact MroT.load hSw X.o.w (.tmp 3) rfl rfl)
 refine zal (i:=5) rfl (by kernel_rfl) (by rfl) (ziS _ r X.o.w (by rw [X.o.key (.inl (by rw [← X.o.kk];intro e;rw [e] at c1;cases c1))];simp) hHeld.1.2 (by intro e;rw [e] at c1;cases c1)) (fun w=>by kernel_rfl) ?_
 rw [c2]
 rintro e w5 ⟨rfl,hb5⟩
 have W5:=hD (W3.o.trans (hb5.mono W3.o.size))
 refine ⟨_,rfl,hHeld.over hb5,fun hHeld=>?_⟩
 refine rgN ?_
 clear hb5
 refine rgT 6 ?_
 refine rgT 7 ?_
 refine rgS 8 ?_
 refine rgS 9 ?_
 refine rgS 10 ?_
 refine rgS 11 ?_
 refine rgS 12 ?_
 refine rgS 13 ?_
 refine rgT 14 ?_
 refine rgT 15 ?_
 refine wpAnyH_done (by kernel_rfl) ?_ _
 go_wp2
 go_ret
 exact ⟨rfl,W5.o⟩
theorem keyC (w:World) (m:Mr) (hm:m.W) (hkey:m.key.length≤140737488351232) (hN:za1 w) (hk:m.k=4) (c1:ansK (zbR m.key).k=true) (c2:zbh (zbR m.key)=true) :
  Calls prog 197 #[.agg (mroC m)] w fun e w'=>e = .returned (.bool (decide (zcM (zbR m.key)=m.key)))∧Below w.heap.size w w':=by
 have W0:=hD ((Below.refl w.heap.size w).alloc lr (.cells (mroC m) 186))
 have HB:=hD (Blk.new w 186 (mroC m))
 have HN:=hD (hN.below W0.o)
 have HM:=hD hm
 have HKey:=hD hkey
 have k0:=zfb (m:=m)
 have HK4:Hid ((za6 m.k).getD 4 false=true):=hD (decide_eq_true hk)
 have X:=hD (zdd m.key)
 generalize hr:zbR m.key=r at *
 have HRR:=hD hr
 clear hm hN hkey hr hk
 go_enter func197,ntmps197
 go_wp2_with fail
 refine (zb3 _ m.k HN.o).mono ?_
 rintro e w1 ⟨rfl,hb1⟩
 have B1:=hD (HB.o.over hb1)
 have N1:=hD (HN.o.below hb1)
 have W1:=hD (zaa W0.o hb1 lr)
 clear hb1 HN
 go_wp2_with (first
  | (with_reducible refine zaU rfl (.tmp 6) (.const (.int .i64 4)) rfl m.k 4 (by decide) rfl rfl _ HK4.o ?_)
  | (with_reducible refine zaA rfl (.tmp 1) rfl w.heap.size rfl B1.o HM.o ?_))
 refine (zgK w1 m HM.o HKey.o N1.o).mono ?_
 rw [HRR.o]
 rintro e w2 ⟨rfl,hb2⟩
 have B2:=hD (B1.o.over hb2)
 have N2:=hD (N1.o.below hb2)
 have W2:=hD (zaa W1.o hb2 lr)
 have NEW:=hD (Blk.new w2 186 zMro)
 clear hb2
 go_wp2_with (refine zar rfl (.tmp 3) (.tmp 10) rfl w2.heap.size rfl (m:=r) rfl X.o.w NEW.o rfl ?_;intro w3 hb3 hg3;have M3:=hD hb3;have W23:Hid (Below w2.heap.size w2 w3):=hD (((Below.refl _ _).alloc lr _).grown hg3 (by simp) (by simp));clear hb3 hg3;refine Hid.o ?_)
 refine hD ?_
 clear NEW
 have HT:Hid (MroT w3 w.heap.size m w2.heap.size r):=hD ⟨⟨B2.o.over W23.o,N2.o.below W23.o⟩,M3.o⟩
 have W3:=hD (zaj (zaa W2.o W23.o lr))
 generalize w2.heap.size=q at *
 go_wp2_with fail
 refine wp_region_held_drew (S:=fun x=>MroT x w.heap.size m q r) (by kernel_rfl) HT.o (fun hHeld=>?_)
 refine rgT 0 ?_
 refine rgK 1 (fun w' hSw=>zb4 hSw.2) ?_
 refine zal (i:=2) rfl (by kernel_rfl) (by rfl) (zfo _ r.k) (fun w=>by kernel_rfl) ?_
 rw [c1]
 rintro e w4 ⟨rfl,rfl⟩
 refine ⟨_,rfl,hHeld,fun hHeld=>?_⟩
 refine rgN ?_
 refine rgT 3 ?_
 refine rgV 4 (.agg (mroC r)) ?_ ?_
 ·(intro w' hSw;exact MroT.load hSw X.o.w (.tmp 3) rfl rfl)
 refine zal (i:=5) rfl (by kernel_rfl) (by rfl) (ziS _ r X.o.w (by rw [X.o.key (.inl (by rw [← X.o.kk];intro e;rw [e] at c1;cases c1))];simp) hHeld.1.2 (by intro e;rw [e] at c1;cases c1)) (fun w=>by kernel_rfl) ?_
 rw [c2]
 rintro e w5 ⟨rfl,hb5⟩
 have W5:=hD (W3.o.trans (hb5.mono W3.o.size))
 refine ⟨_,rfl,hHeld.over hb5,fun hHeld=>?_⟩
 refine rgN ?_
 clear hb5
 refine rgT 6 ?_
 refine rgT 7 ?_
 refine rgV 8 (.agg (mroC r)) ?_ ?_
 ·(intro w' hSw;exact MroT.load hSw X.o.w (.tmp 3) rfl rfl)
 refine rgT 11 ?_
 refine rgK 12 (fun w' hSw=>(hSw.1.1.cell 61).trans (zlv HM.o)) ?_
 refine zal (i:=9) rfl (by kernel_rfl) (by rfl) (zil _ r X.o.w (zmY ((zbv r).1 c2).core) (by rw [X.o.key (.inl (by rw [← X.o.kk];intro e;rw [e] at c1;cases c1))];simp) hHeld.1.2) (fun w=>by kernel_rfl) ?_
 rintro e w6 ⟨v,rfl,ho6,hb6⟩
 obtain ⟨A,c,rfl,_,_⟩:=zag ho6
 have W6:=hD (W5.o.trans (hb6.mono W5.o.size))
 have HA:=hD (At.own ho6)
 refine ⟨_,rfl,hHeld.over hb6,fun hHeld=>?_⟩
 refine rgN ?_
 clear ho6 hb6
 refine zaG (i:=10) (v:=(.string ⟨(zcM r).toArray⟩)) rfl (by kernel_rfl) (by rfl) (zet rfl rfl (At.text HA.o 22 5 underlying22 underlying5 _ 9 underlying9)) (hHeld) (fun hHeld=>?_)
 refine rgN ?_
 refine rgV 13 (.bool (decide (zcM r=m.key))) ?_ ?_
 ·(intro w' hSw;exact zfj (.tmp 21) (.tmp 23) rfl rfl rfl)
 refine rgT 14 ?_
 refine rgT 15 ?_
 refine wpAnyH_done (by kernel_rfl) ?_ _
 go_wp2
 go_ret
 exact ⟨rfl,W6.o⟩
theorem zmz (w:World) (m:Mr) (hm:m.W) (hkey:m.key.length≤140737488351232) (hN:za1 w) :
  Calls prog 197 #[.agg (mroC m)] w fun e w'=>e = .returned (.bool (keyX m))∧Below w.heap.size w w':=by
 by_cases hk:m.k=4
 ·unfold keyX
  rw [if_pos hk]
  cases c1:ansK (zbR m.key).k
  ·simpa using keyA w m hm hkey hN hk c1
  cases c2:zbh (zbR m.key)
  ·simpa using keyB w m hm hkey hN hk c1 c2
  ·simpa using keyC w m hm hkey hN hk c1 c2
 ·exact keyNo w m hm hkey hN hk
theorem zks (w:World) (m:Mr) (hm:m.W) (hkey:m.key.length≤140737488351232) (hN:za1 w) :
  Calls prog 169 #[.agg (mroC m)] w fun e w'=>e = .returned (.bool (zbh m))∧Below w.heap.size w w' :=
 zpb w m hm hkey hN (fun x hx=>zmz x m hm hkey hx)
end
section
open Go.RowKit
def outB (m:Mr):List UInt8:=if zbh m=true then zaE m else []
def errB (m:Mr):Int:=if zbh m=true then 0 else 1
set_option maxRecDepth 20000 in
set_option maxHeartbeats 1000000 in
theorem zhl (w:World) (m:Mr) (hm:m.W) (hkey:m.key.length≤140737488351232) (hN:za1 w) :
  Calls prog 153 #[.agg (mroC m)] w fun e w'=>∃ v,e = .returned (.tuple #[v,.int .i64 (errB m)])∧w'.ownsRow w.heap.size 5 1 v (outB m).length (bvs (outB m))∧Below w.heap.size w w':=by
 have W0:=hD ((Below.refl w.heap.size w).alloc lr (.cells (mroC m) 186))
 have HB:=hD (Blk.new w 186 (mroC m))
 have HN:=hD (hN.below W0.o)
 have HM:=hD hm
 have HKey:=hD hkey
 clear hm hkey hN
 cases hr:zbh m
 ·have h1:outB m=[]:=by unfold outB;rw [hr];rfl
  have h2:errB m=1:=by unfold errB;rw [hr];rfl
  rw [h1,h2]
  have HR:=hD hr
  clear hr h1 h2
  go_enter func153,ntmps153
  go_wp2_with (with_reducible refine zaA rfl (.tmp 1) rfl w.heap.size rfl HB.o HM.o ?_)
  refine (zks _ m HM.o HKey.o HN.o).mono ?_
  rw [HR.o]
  rintro e w1 ⟨rfl,hb1⟩
  have W1:=hD (zaa W0.o hb1 lr)
  clear hb1
  go_wp2
  go_ret2
  exact ⟨_,rfl,World.ownsRow_nil _ _ _ _,W1.o⟩
 ·have h1:outB m=zcM m:=by unfold outB;rw [hr,zlc HM.o hr];rfl
  have h2:errB m=0:=by unfold errB;rw [hr];rfl
  rw [h1,h2]
  have HR:=hD hr
  clear hr h1 h2
  go_enter func153,ntmps153
  go_wp2_with (with_reducible refine zaA rfl (.tmp 1) rfl w.heap.size rfl HB.o HM.o ?_)
  refine (zks _ m HM.o HKey.o HN.o).mono ?_
  rw [HR.o]
  rintro e w1 ⟨rfl,hb1⟩
  have B1:=hD (HB.o.over hb1)
  have N1:=hD (HN.o.below hb1)
  have W1:=hD (zaa W0.o hb1 lr)
  have hs1:=W1.o.size
  clear hb1
  go_wp2_with (with_reducible refine zaA rfl (.tmp 1) rfl w.heap.size rfl B1.o HM.o ?_)
  refine (zil _ m HM.o (zmY ((zbv m).1 HR.o).core) HKey.o N1.o).mono ?_
  rintro e w2 ⟨v,rfl,ho2,hb2⟩
  have HO:=hD (zaC ho2 hs1)
  have W2:=hD (zaa W1.o hb2 lr)
  clear ho2 hb2
  go_wp2
  go_ret2
  exact ⟨_,rfl,HO.o,W2.o⟩
open Go.RowKit
theorem zle {fn:Func} {R:Ending→World→Prop} {a:Act} {w:World} {p q:Tmp} {g:Nat} {t:TypeId} {m:Mr} {v:Value} (hf:fn.results=#[.cell p 186,.tmp q])
  (hp:a.tmps.getD p undef = .pointer (some ⟨g,0,none⟩)) (hq:a.tmps.getD q undef=v) (h:Blk w g t (mroC m)) (hm:m.W) (hd:a.defers=[]) (hR:R (.returned (.tuple #[.agg (mroC m),v])) w) :
  bodyPost prog fn R .ret a w:=by
 refine bodyPost_ret (v:=.tuple #[.agg (mroC m),v]) ?_ hd hR
 have hp':a.tmps[p]?.getD undef = .pointer (some ⟨g,0,none⟩):=by simpa using hp
 have hq':a.tmps[q]?.getD undef=v:=by simpa using hq
 simp [results,hf,hp',hq',asAddr,zig h hm]
theorem zrk:prog.built 186 []=some (mroC (zc3 0)):=by kernel_rfl
theorem zbk {ops:Array Oper} {rest:List Oper} {o:Oper} {a:Act} {w:World} {Q:Exit→Act→World→Prop} (hgd:o.guard=none) (ho:o.op = .build 186 #[])
  (hk:wpList prog ops Q rest (a.put o.dst (.agg (mroC (zc3 0)))) w):wpList prog ops Q (o::rest) a w:=by
 refine wpList_plain hgd fun K hK'=>?_
 unfold Oper.wp execOp
 simp only [ho,List.map_toArray,List.map_nil,Sem.run_bind,run_build w _ _ _ zrk,Result.andThen_ok,Sem.run_pure]
 exact hK' _ _ hk
end
end Go.Proofs.YtplpglfjcieloaaGreatDoor
