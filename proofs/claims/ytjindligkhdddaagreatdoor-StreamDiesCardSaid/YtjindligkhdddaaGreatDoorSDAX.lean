/-
  What keyed, rightFlow, rightFrom, rightKey and Right of package mroute do, in whatever memory. The one condition beyond sizes that fit memory: the program's table holds what its text lays.
  What rightFrom, rightKey and Right of package mroute do, in whatever memory. The one condition beyond sizes that fit memory: the program's table holds what its text lays.
  What rightKey and Right of package mroute do, in whatever memory. The one condition beyond sizes that fit memory: the program's table holds what its text lays.
  What Bytes, Compare, Leaf, Take and Parse of package mroute do, in whatever memory. The one condition beyond sizes that fit memory: the program's table holds what its text lays.
  What Leaf and ofSize of package mroute do, in whatever memory. The one condition beyond sizes that fit memory: the program's table holds what its text lays.
-/
import Derived.Test.YtjindligkhdddaaGreatDoorSDAW
set_option linter.unusedVariables false
set_option linter.unusedSimpArgs false
namespace Go.Proofs.YtjindligkhdddaaGreatDoor
section
set_option maxRecDepth 20000
open Go.RowKit
theorem zfq {m:Mr} (w:m.W) {x:World} {g:Nat} {t:TypeId} (h:Blk x g t (mroC m)):x.cell? ⟨g,10,none⟩=some (.int .i64 m.ss):=zxQ w h 0 _ rfl
theorem zfr {m:Mr} (w:m.W) {x:World} {g:Nat} {t:TypeId} (h:Blk x g t (mroC m)):x.cell? ⟨g,27,none⟩=some (.int .i64 m.gs):=zxR w h 0 _ rfl
theorem zkg {m:Mr} (w:m.W) {x:World} {g:Nat} {t:TypeId} (h:Blk x g t (mroC m)):x.cell? ⟨g,44,none⟩=some (.int .i64 m.fs):=mro_f w h 0 _ rfl
theorem zb1 {m:Mr} {x:World} {g:Nat} {t:TypeId} (h:Blk x g t (mroC m)):x.cell? ⟨g,0,none⟩=some (.int .i64 m.k):=(h.cell 0).trans zeW
set_option maxHeartbeats 1000000 in
theorem zgq (w:World) (m:Mr) (hm:m.W) (hkey:m.key.length≤140737488351232) (hN:za0 w) :
  Calls Tryz.prog 215 #[.agg (mroC m)] w fun e w'=>e = .returned (.agg (mroC (zbM m.key)))∧Below w.heap.size w w':=by
 have HW:=hide (zc6 m.key).w
 have k61:=zk1 hm
 have RES:Hid (Blk ((w.alloc (.cells (mroC m) 229)).alloc (.cells zMro 229)) (w.heap.size+1) 229 (mroC (zcW 0))):=hide (by rw [zkp];exact zc8 w _ _ _)
 have B1:=(Below.refl w.heap.size w).alloc (Nat.le_refl _) (.cells (mroC m) 229)
 have W0:=hide (B1.alloc B1.size (.cells zMro 229))
 clear B1
 have HN:=hide (hN.below W0.out)
 have HSZ:Hid (((w.alloc (.cells (mroC m) 229)).alloc (.cells zMro 229)).heap.size=w.heap.size+2):=hide (by rw [World.size_alloc,World.size_alloc])
 clear hm hN
 go_enter Tryz.func215,Tryz.ntmps215
 go_wp2_with ((with_reducible refine zez rfl (.tmp 4) rfl m.key rfl ?_);intro c w1 hc ha hb;rw [HSZ.out] at ha;rw [HSZ.out];have HA:=hide ha;have RES1:=hide (RES.out.over hb);have W1:=hide (zaa W0.out hb (Nat.le_refl _));have N1:=hide (HN.out.below hb);have hs1:=hb.size;clear ha hb RES W0 HN;refine Hid.out ?_)
 refine hide ?_
 go_wp2_with fail
 refine (zf1 w1 _ _ _ _ _ m.key HA.out (Nat.le_refl _) (by omega) N1.out).mono ?_
 rintro e w2 ⟨rfl,hb2⟩
 have RES2:=hide (RES1.out.over hb2)
 have W2:=hide (zaa W1.out hb2 (Nat.le_refl _))
 clear hb2
 go_wp2_with (refine zar rfl (.tmp 2) (.tmp 6) rfl (w.heap.size+1) rfl (m:=zbM m.key) rfl HW.out RES2.out (zbe (zbO 0)) ?_;intro w9 hb9 hg9;have M9:=hide hb9;have HG9:=hide hg9;clear hb9 hg9;refine Hid.out ?_)
 refine hide ?_
 go_wp2
 refine zoW (p:=2) rfl rfl M9.out HW.out rfl ?_
 exact ⟨rfl,W2.out.grown HG9.out W2.out.size (by simp)⟩
set_option maxHeartbeats 2000000 in
theorem zdn (w:World) (m:Mr) (hm:m.W) (hN:za0 w) :
  Calls Tryz.prog 204 #[.agg (mroC m)] w fun e w'=>e = .returned (.bool (zi6 m))∧Below w.heap.size w w':=by
 have HB:=hide (Blk.new w 229 (mroC m))
 have HM:=hide hm
 have W0:=hide ((Below.refl w.heap.size w).alloc (Nat.le_refl _) (.cells (mroC m) 229))
 have HN:=hide (hN.below W0.out)
 have k10:(mroC m)[10]?=some (.int .i64 m.ss):=(HB.out.cell 10).symm.trans (zfq hm HB.out)
 have k27:(mroC m)[27]?=some (.int .i64 m.gs):=(HB.out.cell 27).symm.trans (zfr hm HB.out)
 have k44:(mroC m)[44]?=some (.int .i64 m.fs):=(HB.out.cell 44).symm.trans (zkg hm HB.out)
 have k0:(mroC m)[0]?=some (.int .i64 m.k):=zeW
 have HD:Hid (Below w.heap.size w (w.alloc (.cells (mroC m) 229)).drew):=hide (zam W0.out)
 obtain ⟨r,hr⟩:∃ r,r=zi6 m:=⟨_,rfl⟩
 have hf:=hr
 unfold zi6 at hf
 rw [← hr]
 clear hm hN hr
 have HF:=hide hf
 clear hf
 go_enter Tryz.func204,Tryz.ntmps204
 go_wp2_with fail
 refine wp_region_held_drew (S:=fun x=>Blk x w.heap.size 229 (mroC m)) (by kernel_rfl) HB.out.drew (fun hHeld=>?_)
 refine rgT 0 ?_
 refine rgT 1 ?_
 refine rgK 2 (fun w' hSw=>(hSw.cell 10).trans k10) ?_
 refine rgT 3 ?_
 refine rgT 4 ?_
 refine rgK 5 (fun w' hSw=>(hSw.cell 27).trans k27) ?_
 refine rgT 6 ?_
 refine rgT 7 ?_
 refine wpAnyH_done (by kernel_rfl) ?_ _
 have HB1:=hide hHeld
 have HN1:Hid (za0 (w.alloc (.cells (mroC m) 229)).drew):=hide HN.out
 generalize (w.alloc (.cells (mroC m) 229)).drew=w1 at hHeld HD HB1 HN1 ⊢
 clear hHeld HN HB W0
 have k10:=zfq HM.out HB1.out
 have k27:=zfr HM.out HB1.out
 have ha10:Hid (w1.rangeAt w.heap.size 10 (.int .i64 m.ss::bvs m.sb)):=hide (zxQ HM.out HB1.out)
 go_wp2_with (with_reducible refine zaN rfl (.tmp 11) rfl w.heap.size 10 rfl ha10.out HM.out.sb ?_)
 refine (zdr w1 m.ss m.sb HM.out.sb).mono ?_
 rintro e w2 ⟨rfl,hb2⟩
 have B2:=hide (HB1.out.over hb2)
 have N2:=hide (HN1.out.below hb2)
 have W2:=hide (HD.out.trans (hb2.mono HD.out.size))
 have k0':=zb1 B2.out
 have ha27:Hid (w2.rangeAt w.heap.size 27 (.int .i64 m.gs::bvs m.gb)):=hide (zxR HM.out B2.out)
 clear hb2 k10 k27 ha10
 cases c1:zct m.ss m.sb
 ·rw [c1] at HF
  have hlast:∀ {w3:World},Blk w3 w.heap.size 229 (mroC m)→za0 w3→Below w.heap.size w w3→True:=fun _ _ _=>trivial
  by_cases hg:0<m.gs
  ·have hgd:decide (0<m.gs)=true:=decide_eq_true hg
   go_wp2_with ((with_reducible refine zaN ?_ (.tmp 18) rfl w.heap.size 27 rfl ha27.out HM.out.gb ?_);· rfl)
   refine (zdr w2 m.gs m.gb HM.out.gb).mono ?_
   rintro e w3 ⟨rfl,hb3⟩
   have B3:=hide (B2.out.over hb3)
   have N3:=hide (N2.out.below hb3)
   have W3:=hide (W2.out.trans (hb3.mono W2.out.size))
   have k03:=zb1 B3.out
   clear hb3 k0'
   cases c2:zct m.gs m.gb
   ·obtain rfl:r=false:=by rw [HF.out,c2,hgd];rfl
    go_wp2
    go_ret
    exact ⟨rfl,W3.out⟩
   ·have hgz:¬ m.gs=0:=by omega
    have hgzb:(m.gs==0)=false:=beq_eq_false_iff_ne.2 hgz
    by_cases hs:m.ss=0
    ·have hsb:(m.ss==0)=true:=beq_iff_eq.2 hs
     by_cases hk:m.k=3
     ·obtain rfl:r=true:=by rw [HF.out,c2,hgd];simp [hs,hk]
      rw [hk] at k03
      go_wp2
      go_ret
      exact ⟨rfl,W3.out⟩
     ·obtain rfl:r=!nAd m.k:=by rw [HF.out,c2,hgd];simp [hs,hk]
      have hkb:(m.k==3)=false:=beq_eq_false_iff_ne.2 hk
      clear hs
      go_wp2_with fail
      refine (zb0 w3 m.k N3.out).mono ?_
      rintro e w4 ⟨rfl,hb4⟩
      have W4:=hide (W3.out.trans (hb4.mono W3.out.size))
      clear hb4
      go_wp2_with ((with_reducible refine zaU ?_ (.tmp 36) (.const (.int .i64 3)) rfl m.k 3 (by decide) rfl rfl (nAd m.k) rfl ?_);· rfl)
      go_ret
      exact ⟨rfl,W4.out⟩
    ·obtain rfl:r=decide (m.ss=m.gs):=by rw [HF.out,c2,hgd];simp [hs,hgz]
     have hsb:(m.ss==0)=false:=beq_eq_false_iff_ne.2 hs
     go_wp2
     go_ret
     exact ⟨rfl,W3.out⟩
  ·have hgd:decide (0<m.gs)=false:=decide_eq_false hg
   by_cases hs:m.ss=0∨m.gs=0
   ·by_cases hk:m.k=3
    ·obtain rfl:r=true:=by rw [HF.out,hgd];simp [hs,hk]
     rw [hk] at k0'
     by_cases hs0:m.ss=0
     ·have hsb:(m.ss==0)=true:=beq_iff_eq.2 hs0
      clear hs
      go_wp2
      go_ret
      exact ⟨rfl,W2.out⟩
     ·have hg0:m.gs=0:=hs.resolve_left hs0
      have hsb:(m.ss==0)=false:=beq_eq_false_iff_ne.2 hs0
      have hgb:(m.gs==0)=true:=beq_iff_eq.2 hg0
      clear hs
      go_wp2
      go_ret
      exact ⟨rfl,W2.out⟩
    ·obtain rfl:r=!nAd m.k:=by rw [HF.out,hgd];simp [hs,hk]
     have hkb:(m.k==3)=false:=beq_eq_false_iff_ne.2 hk
     by_cases hs0:m.ss=0
     ·have hsb:(m.ss==0)=true:=beq_iff_eq.2 hs0
      clear hs
      go_wp2_with fail
      refine (zb0 w2 m.k N2.out).mono ?_
      rintro e w4 ⟨rfl,hb4⟩
      have W4:=hide (W2.out.trans (hb4.mono W2.out.size))
      clear hb4
      go_wp2_with ((with_reducible refine zaU ?_ (.tmp 36) (.const (.int .i64 3)) rfl m.k 3 (by decide) rfl rfl (nAd m.k) rfl ?_);· rfl)
      go_ret
      exact ⟨rfl,W4.out⟩
     ·have hg0:m.gs=0:=hs.resolve_left hs0
      have hsb:(m.ss==0)=false:=beq_eq_false_iff_ne.2 hs0
      have hgb:(m.gs==0)=true:=beq_iff_eq.2 hg0
      clear hs
      go_wp2_with fail
      refine (zb0 w2 m.k N2.out).mono ?_
      rintro e w4 ⟨rfl,hb4⟩
      have W4:=hide (W2.out.trans (hb4.mono W2.out.size))
      clear hb4
      go_wp2_with ((with_reducible refine zaU ?_ (.tmp 36) (.const (.int .i64 3)) rfl m.k 3 (by decide) rfl rfl (nAd m.k) rfl ?_);· rfl)
      go_ret
      exact ⟨rfl,W4.out⟩
   ·have hs0:¬ m.ss=0:=fun e=>hs (.inl e)
    have hg0:¬ m.gs=0:=fun e=>hs (.inr e)
    obtain rfl:r=decide (m.ss=m.gs):=by rw [HF.out,hgd];simp [hs0,hg0]
    have hsb:(m.ss==0)=false:=beq_eq_false_iff_ne.2 hs0
    have hgb:(m.gs==0)=false:=beq_eq_false_iff_ne.2 hg0
    clear hs
    go_wp2
    go_ret
    exact ⟨rfl,W2.out⟩
 ·obtain rfl:r=false:=by rw [HF.out,c1];rfl
  go_wp2
  go_ret
  exact ⟨rfl,W2.out⟩
end
section
set_option maxRecDepth 20000
set_option maxHeartbeats 1000000
open Go.RowKit
theorem zlh {o:Oper} {a:Act} {w:World} (x y:Operand) (ho:o.op = .index 289 x y) (k:Int) (j:Nat) (hj:j<6) (hx:a.eval x = .agg (nmC k)) (hy:a.eval y = .int .i64 (j:Int)) :
  (execOp a.eval o).run Tryz.prog w = .ok (.value (.bool ((za5 k).getD j false))) w:=by
 unfold execOp
 simp only [ho,hx,hy,Sem.run_bind,zho w k hj,Result.andThen_ok,Sem.run_pure]
def MroN (x:World) (g:Nat) (m:Mr):Prop:=Blk x g 229 (mroC m)∧za0 x
theorem MroN.over {x y:World} {g:Nat} {m:Mr} (h:MroN x g m) (hb:Below x.heap.size x y):MroN y g m:=⟨h.1.over hb,h.2.below hb⟩
theorem MroN.load {x:World} {g:Nat} {m:Mr} (h:MroN x g m) (hm:m.W) {o:Oper} {a:Act} (u:Operand) (ho:o.op = .load 229 u) (hu:a.eval u = .pointer (some ⟨g,0,none⟩)) :
  (execOp a.eval o).run Tryz.prog x = .ok (.value (.agg (mroC m))) x:=zet u ho g hu h.1 hm
theorem zgh (w:World) (m:Mr) (hm:m.W) (hN:za0 w) :
  Calls Tryz.prog 206 #[.agg (mroC m)] w fun e w'=>e = .returned (.bool (zn7 m))∧Below w.heap.size w w':=by
 have W0:=hide ((Below.refl w.heap.size w).alloc (Nat.le_refl _) (.cells (mroC m) 229))
 have HS:Hid (MroN (w.alloc (.cells (mroC m) 229)) w.heap.size m):=hide ⟨Blk.new w _ _,hN.below W0.out⟩
 have HM:=hide hm
 have HD:Hid (Below w.heap.size w (w.alloc (.cells (mroC m) 229)).drew):=hide (zam W0.out)
 clear hm hN
 go_enter Tryz.func206,Tryz.ntmps206
 go_wp2_with fail
 refine wp_region_held_drew (S:=fun x=>MroN x w.heap.size m) (by kernel_rfl) HS.out (fun hHeld=>?_)
 refine rgT 0 ?_
 refine rgK 1 (fun w' hSw=>zb1 hSw.1) ?_
 refine rgT 4 ?_
 refine rgT 5 ?_
 refine rgK 6 (fun w' hSw=>zkg HM.out hSw.1) ?_
 refine rgT 7 ?_
 refine zal (i:=2) rfl (by kernel_rfl) (by rfl) (zb0 _ m.k hHeld.2) (fun w=>by kernel_rfl) ?_
 rintro e w1 ⟨rfl,hb1⟩
 have W1:=hide (HD.out.trans (hb1.mono HD.out.size))
 refine ⟨_,rfl,hHeld.over hb1,fun hHeld=>?_⟩
 refine rgN ?_
 refine zaE (i:=3) (v:=(.bool (nFr m.k))) rfl (by kernel_rfl) (by rfl) (zlh (.tmp 5) (.const (.int .i64 5)) rfl m.k 5 (by decide) rfl rfl) (hHeld) (fun hHeld=>?_)
 refine rgN ?_
 refine rgT 8 ?_
 refine rgT 9 ?_
 refine wpAnyH_done (by kernel_rfl) ?_ _
 go_wp2
 go_ret
 exact ⟨rfl,W1.out⟩
theorem zdZ {m:Mr} (w:m.W):(zcJ m).length≤200+m.key.length:=by
 have:=zrj w 6 (Nat.le_refl _)
 unfold zcJ zjT
 simp only [List.length_cons]
 omega
theorem right1 (w:World) (m:Mr) (hm:m.W) (hkey:m.key.length≤140737488351232) (hN:za0 w)
  (HK:∀ x,za0 x→Calls Tryz.prog 205 #[.agg (mroC m)] x fun e w'=>e = .returned (.bool (keyX m))∧Below x.heap.size x w') (c1:kwn m.k=false) :
  Calls Tryz.prog 188 #[.agg (mroC m)] w fun e w'=>e = .returned (.bool (false))∧Below w.heap.size w w':=by
 have W0:=hide ((Below.refl w.heap.size w).alloc (Nat.le_refl _) (.cells (mroC m) 229))
 have HS:Hid (MroN (w.alloc (.cells (mroC m) 229)) w.heap.size m):=hide ⟨Blk.new w _ _,hN.below W0.out⟩
 have HM:=hide hm
 have HD:Hid (Below w.heap.size w (w.alloc (.cells (mroC m) 229)).drew):=hide (zam W0.out)
 have HWL:=hide (zdZ hm)
 have HKey:=hide hkey
 clear hm hN hkey
 go_enter Tryz.func188,Tryz.ntmps188
 go_wp2_with fail
 refine wp_region_held_drew (S:=fun x=>MroN x w.heap.size m) (by kernel_rfl) HS.out (fun hHeld=>?_)
 refine rgT 0 ?_
 refine rgK 1 (fun w' hSw=>zb1 hSw.1) ?_
 refine zal (i:=2) rfl (by kernel_rfl) (by rfl) (zeX _ m.k hHeld.2) (fun w=>by kernel_rfl) ?_
 rintro e w1 ⟨rfl,hb⟩
 have W1:=hide (HD.out.trans (hb.mono HD.out.size))
 rw [c1]
 refine ⟨_,rfl,hHeld.over hb,fun hHeld=>?_⟩
 refine rgN ?_
 clear hb
 refine rgT 3 ?_
 refine rgS 4 ?_
 refine rgS 5 ?_
 refine rgT 6 ?_
 refine rgT 7 ?_
 refine rgS 8 ?_
 refine rgS 9 ?_
 refine rgT 10 ?_
 refine rgT 11 ?_
 refine rgS 12 ?_
 refine rgS 13 ?_
 refine rgT 14 ?_
 refine rgT 15 ?_
 refine rgS 16 ?_
 refine rgS 17 ?_
 refine rgS 18 ?_
 refine rgS 19 ?_
 refine rgS 20 ?_
 refine rgT 21 ?_
 refine rgT 22 ?_
 refine wpAnyH_done (by kernel_rfl) ?_ _
 go_wp2
 go_ret
 exact ⟨rfl,W1.out⟩
theorem right2 (w:World) (m:Mr) (hm:m.W) (hkey:m.key.length≤140737488351232) (hN:za0 w)
  (HK:∀ x,za0 x→Calls Tryz.prog 205 #[.agg (mroC m)] x fun e w'=>e = .returned (.bool (keyX m))∧Below x.heap.size x w') (c1:kwn m.k=true) (c2:zi6 m=false) :
  Calls Tryz.prog 188 #[.agg (mroC m)] w fun e w'=>e = .returned (.bool (false))∧Below w.heap.size w w':=by
 have W0:=hide ((Below.refl w.heap.size w).alloc (Nat.le_refl _) (.cells (mroC m) 229))
 have HS:Hid (MroN (w.alloc (.cells (mroC m) 229)) w.heap.size m):=hide ⟨Blk.new w _ _,hN.below W0.out⟩
 have HM:=hide hm
 have HD:Hid (Below w.heap.size w (w.alloc (.cells (mroC m) 229)).drew):=hide (zam W0.out)
 have HWL:=hide (zdZ hm)
 have HKey:=hide hkey
 clear hm hN hkey
 go_enter Tryz.func188,Tryz.ntmps188
 go_wp2_with fail
 refine wp_region_held_drew (S:=fun x=>MroN x w.heap.size m) (by kernel_rfl) HS.out (fun hHeld=>?_)
 refine rgT 0 ?_
 refine rgK 1 (fun w' hSw=>zb1 hSw.1) ?_
 refine zal (i:=2) rfl (by kernel_rfl) (by rfl) (zeX _ m.k hHeld.2) (fun w=>by kernel_rfl) ?_
 rintro e w1 ⟨rfl,hb⟩
 have W1:=hide (HD.out.trans (hb.mono HD.out.size))
 rw [c1]
 refine ⟨_,rfl,hHeld.over hb,fun hHeld=>?_⟩
 refine rgN ?_
 clear hb
 refine rgT 3 ?_
 refine rgV 4 (.agg (mroC m)) ?_ ?_
 ·(intro w' hSw;exact MroN.load hSw HM.out (.tmp 1) rfl rfl)
 refine zal (i:=5) rfl (by kernel_rfl) (by rfl) (zdn _ m HM.out hHeld.2) (fun w=>by kernel_rfl) ?_
 rintro e w2 ⟨rfl,hb⟩
 have W2:=hide (W1.out.trans (hb.mono W1.out.size))
 rw [c2]
 refine ⟨_,rfl,hHeld.over hb,fun hHeld=>?_⟩
 refine rgN ?_
 clear hb
 refine rgT 6 ?_
 refine rgT 7 ?_
 refine rgS 8 ?_
 refine rgS 9 ?_
 refine rgT 10 ?_
 refine rgT 11 ?_
 refine rgS 12 ?_
 refine rgS 13 ?_
 refine rgT 14 ?_
 refine rgT 15 ?_
 refine rgS 16 ?_
 refine rgS 17 ?_
 refine rgS 18 ?_
 refine rgS 19 ?_
 refine rgS 20 ?_
 refine rgT 21 ?_
 refine rgT 22 ?_
 refine wpAnyH_done (by kernel_rfl) ?_ _
 go_wp2
 go_ret
 exact ⟨rfl,W2.out⟩
theorem right3 (w:World) (m:Mr) (hm:m.W) (hkey:m.key.length≤140737488351232) (hN:za0 w)
  (HK:∀ x,za0 x→Calls Tryz.prog 205 #[.agg (mroC m)] x fun e w'=>e = .returned (.bool (keyX m))∧Below x.heap.size x w') (c1:kwn m.k=true) (c2:zi6 m=true) (c3:keyX m=false) :
  Calls Tryz.prog 188 #[.agg (mroC m)] w fun e w'=>e = .returned (.bool (false))∧Below w.heap.size w w':=by
 have W0:=hide ((Below.refl w.heap.size w).alloc (Nat.le_refl _) (.cells (mroC m) 229))
 have HS:Hid (MroN (w.alloc (.cells (mroC m) 229)) w.heap.size m):=hide ⟨Blk.new w _ _,hN.below W0.out⟩
 have HM:=hide hm
 have HD:Hid (Below w.heap.size w (w.alloc (.cells (mroC m) 229)).drew):=hide (zam W0.out)
 have HWL:=hide (zdZ hm)
 have HKey:=hide hkey
 clear hm hN hkey
 go_enter Tryz.func188,Tryz.ntmps188
 go_wp2_with fail
 refine wp_region_held_drew (S:=fun x=>MroN x w.heap.size m) (by kernel_rfl) HS.out (fun hHeld=>?_)
 refine rgT 0 ?_
 refine rgK 1 (fun w' hSw=>zb1 hSw.1) ?_
 refine zal (i:=2) rfl (by kernel_rfl) (by rfl) (zeX _ m.k hHeld.2) (fun w=>by kernel_rfl) ?_
 rintro e w1 ⟨rfl,hb⟩
 have W1:=hide (HD.out.trans (hb.mono HD.out.size))
 rw [c1]
 refine ⟨_,rfl,hHeld.over hb,fun hHeld=>?_⟩
 refine rgN ?_
 clear hb
 refine rgT 3 ?_
 refine rgV 4 (.agg (mroC m)) ?_ ?_
 ·(intro w' hSw;exact MroN.load hSw HM.out (.tmp 1) rfl rfl)
 refine zal (i:=5) rfl (by kernel_rfl) (by rfl) (zdn _ m HM.out hHeld.2) (fun w=>by kernel_rfl) ?_
 rintro e w2 ⟨rfl,hb⟩
 have W2:=hide (W1.out.trans (hb.mono W1.out.size))
 rw [c2]
 refine ⟨_,rfl,hHeld.over hb,fun hHeld=>?_⟩
 refine rgN ?_
 clear hb
 refine rgT 6 ?_
 refine rgT 7 ?_
 refine rgV 8 (.agg (mroC m)) ?_ ?_
 ·(intro w' hSw;exact MroN.load hSw HM.out (.tmp 1) rfl rfl)
 refine zal (i:=9) rfl (by kernel_rfl) (by rfl) (HK _ hHeld.2) (fun w=>by kernel_rfl) ?_
 rintro e w3 ⟨rfl,hb⟩
 have W3:=hide (W2.out.trans (hb.mono W2.out.size))
 rw [c3]
 refine ⟨_,rfl,hHeld.over hb,fun hHeld=>?_⟩
 refine rgN ?_
 clear hb
 refine rgT 10 ?_
 refine rgT 11 ?_
 refine rgS 12 ?_
 refine rgS 13 ?_
 refine rgT 14 ?_
 refine rgT 15 ?_
 refine rgS 16 ?_
 refine rgS 17 ?_
 refine rgS 18 ?_
 refine rgS 19 ?_
 refine rgS 20 ?_
 refine rgT 21 ?_
 refine rgT 22 ?_
 refine wpAnyH_done (by kernel_rfl) ?_ _
 go_wp2
 go_ret
 exact ⟨rfl,W3.out⟩
theorem right4 (w:World) (m:Mr) (hm:m.W) (hkey:m.key.length≤140737488351232) (hN:za0 w)
  (HK:∀ x,za0 x→Calls Tryz.prog 205 #[.agg (mroC m)] x fun e w'=>e = .returned (.bool (keyX m))∧Below x.heap.size x w') (c1:kwn m.k=true) (c2:zi6 m=true) (c3:keyX m=true) (c4:zn7 m=false) :
  Calls Tryz.prog 188 #[.agg (mroC m)] w fun e w'=>e = .returned (.bool (false))∧Below w.heap.size w w':=by
 have W0:=hide ((Below.refl w.heap.size w).alloc (Nat.le_refl _) (.cells (mroC m) 229))
 have HS:Hid (MroN (w.alloc (.cells (mroC m) 229)) w.heap.size m):=hide ⟨Blk.new w _ _,hN.below W0.out⟩
 have HM:=hide hm
 have HD:Hid (Below w.heap.size w (w.alloc (.cells (mroC m) 229)).drew):=hide (zam W0.out)
 have HWL:=hide (zdZ hm)
 have HKey:=hide hkey
 clear hm hN hkey
 go_enter Tryz.func188,Tryz.ntmps188
 go_wp2_with fail
 refine wp_region_held_drew (S:=fun x=>MroN x w.heap.size m) (by kernel_rfl) HS.out (fun hHeld=>?_)
 refine rgT 0 ?_
 refine rgK 1 (fun w' hSw=>zb1 hSw.1) ?_
 refine zal (i:=2) rfl (by kernel_rfl) (by rfl) (zeX _ m.k hHeld.2) (fun w=>by kernel_rfl) ?_
 rintro e w1 ⟨rfl,hb⟩
 have W1:=hide (HD.out.trans (hb.mono HD.out.size))
 rw [c1]
 refine ⟨_,rfl,hHeld.over hb,fun hHeld=>?_⟩
 refine rgN ?_
 clear hb
 refine rgT 3 ?_
 refine rgV 4 (.agg (mroC m)) ?_ ?_
 ·(intro w' hSw;exact MroN.load hSw HM.out (.tmp 1) rfl rfl)
 refine zal (i:=5) rfl (by kernel_rfl) (by rfl) (zdn _ m HM.out hHeld.2) (fun w=>by kernel_rfl) ?_
 rintro e w2 ⟨rfl,hb⟩
 have W2:=hide (W1.out.trans (hb.mono W1.out.size))
 rw [c2]
 refine ⟨_,rfl,hHeld.over hb,fun hHeld=>?_⟩
 refine rgN ?_
 clear hb
 refine rgT 6 ?_
 refine rgT 7 ?_
 refine rgV 8 (.agg (mroC m)) ?_ ?_
 ·(intro w' hSw;exact MroN.load hSw HM.out (.tmp 1) rfl rfl)
 refine zal (i:=9) rfl (by kernel_rfl) (by rfl) (HK _ hHeld.2) (fun w=>by kernel_rfl) ?_
 rintro e w3 ⟨rfl,hb⟩
 have W3:=hide (W2.out.trans (hb.mono W2.out.size))
 rw [c3]
 refine ⟨_,rfl,hHeld.over hb,fun hHeld=>?_⟩
 refine rgN ?_
 clear hb
 refine rgT 10 ?_
 refine rgT 11 ?_
 refine rgV 12 (.agg (mroC m)) ?_ ?_
 ·(intro w' hSw;exact MroN.load hSw HM.out (.tmp 1) rfl rfl)
 refine zal (i:=13) rfl (by kernel_rfl) (by rfl) (zgh _ m HM.out hHeld.2) (fun w=>by kernel_rfl) ?_
 rintro e w4 ⟨rfl,hb⟩
 have W4:=hide (W3.out.trans (hb.mono W3.out.size))
 rw [c4]
 refine ⟨_,rfl,hHeld.over hb,fun hHeld=>?_⟩
 refine rgN ?_
 clear hb
 refine rgT 14 ?_
 refine rgT 15 ?_
 refine rgS 16 ?_
 refine rgS 17 ?_
 refine rgS 18 ?_
 refine rgS 19 ?_
 refine rgS 20 ?_
 refine rgT 21 ?_
 refine rgT 22 ?_
 refine wpAnyH_done (by kernel_rfl) ?_ _
 go_wp2
 go_ret
 exact ⟨rfl,W4.out⟩
theorem right5 (w:World) (m:Mr) (hm:m.W) (hkey:m.key.length≤140737488351232) (hN:za0 w)
  (HK:∀ x,za0 x→Calls Tryz.prog 205 #[.agg (mroC m)] x fun e w'=>e = .returned (.bool (keyX m))∧Below x.heap.size x w') (c1:kwn m.k=true) (c2:zi6 m=true) (c3:keyX m=true) (c4:zn7 m=true) :
  Calls Tryz.prog 188 #[.agg (mroC m)] w fun e w'=>e = .returned (.bool (zuC m))∧Below w.heap.size w w':=by
 have W0:=hide ((Below.refl w.heap.size w).alloc (Nat.le_refl _) (.cells (mroC m) 229))
 have HS:Hid (MroN (w.alloc (.cells (mroC m) 229)) w.heap.size m):=hide ⟨Blk.new w _ _,hN.below W0.out⟩
 have HM:=hide hm
 have HD:Hid (Below w.heap.size w (w.alloc (.cells (mroC m) 229)).drew):=hide (zam W0.out)
 have HWL:=hide (zdZ hm)
 have HKey:=hide hkey
 clear hm hN hkey
 go_enter Tryz.func188,Tryz.ntmps188
 go_wp2_with fail
 refine wp_region_held_drew (S:=fun x=>MroN x w.heap.size m) (by kernel_rfl) HS.out (fun hHeld=>?_)
 refine rgT 0 ?_
 refine rgK 1 (fun w' hSw=>zb1 hSw.1) ?_
 refine zal (i:=2) rfl (by kernel_rfl) (by rfl) (zeX _ m.k hHeld.2) (fun w=>by kernel_rfl) ?_
 rintro e w1 ⟨rfl,hb⟩
 have W1:=hide (HD.out.trans (hb.mono HD.out.size))
 rw [c1]
 refine ⟨_,rfl,hHeld.over hb,fun hHeld=>?_⟩
 refine rgN ?_
 clear hb
 refine rgT 3 ?_
 refine rgV 4 (.agg (mroC m)) ?_ ?_
 ·(intro w' hSw;exact MroN.load hSw HM.out (.tmp 1) rfl rfl)
 refine zal (i:=5) rfl (by kernel_rfl) (by rfl) (zdn _ m HM.out hHeld.2) (fun w=>by kernel_rfl) ?_
 rintro e w2 ⟨rfl,hb⟩
 have W2:=hide (W1.out.trans (hb.mono W1.out.size))
 rw [c2]
 refine ⟨_,rfl,hHeld.over hb,fun hHeld=>?_⟩
 refine rgN ?_
 clear hb
 refine rgT 6 ?_
 refine rgT 7 ?_
 refine rgV 8 (.agg (mroC m)) ?_ ?_
 ·(intro w' hSw;exact MroN.load hSw HM.out (.tmp 1) rfl rfl)
 refine zal (i:=9) rfl (by kernel_rfl) (by rfl) (HK _ hHeld.2) (fun w=>by kernel_rfl) ?_
 rintro e w3 ⟨rfl,hb⟩
 have W3:=hide (W2.out.trans (hb.mono W2.out.size))
 rw [c3]
 refine ⟨_,rfl,hHeld.over hb,fun hHeld=>?_⟩
 refine rgN ?_
 clear hb
 refine rgT 10 ?_
 refine rgT 11 ?_
 refine rgV 12 (.agg (mroC m)) ?_ ?_
 ·(intro w' hSw;exact MroN.load hSw HM.out (.tmp 1) rfl rfl)
 refine zal (i:=13) rfl (by kernel_rfl) (by rfl) (zgh _ m HM.out hHeld.2) (fun w=>by kernel_rfl) ?_
 rintro e w4 ⟨rfl,hb⟩
 have W4:=hide (W3.out.trans (hb.mono W3.out.size))
 rw [c4]
 refine ⟨_,rfl,hHeld.over hb,fun hHeld=>?_⟩
 refine rgN ?_
 clear hb
 refine rgT 14 ?_
 refine rgT 15 ?_
 refine rgV 16 (.agg (mroC m)) ?_ ?_
 ·(intro w' hSw;exact MroN.load hSw HM.out (.tmp 1) rfl rfl)
 refine rgV 19 (.agg (mroC m)) ?_ ?_
 ·(intro w' hSw;exact MroN.load hSw HM.out (.tmp 1) rfl rfl)
 refine zal (i:=17) rfl (by kernel_rfl) (by rfl) (zh6 _ m HM.out c1 HKey.out hHeld.2) (fun w=>by kernel_rfl) ?_
 rintro e w5 ⟨v,rfl,ho,hb⟩
 obtain ⟨A,c,rfl,_,_⟩:=zag ho
 have W5:=hide (W4.out.trans (hb.mono W4.out.size))
 have HA:=hide (At.own ho)
 refine ⟨_,rfl,hHeld.over hb,fun hHeld=>?_⟩
 refine rgN ?_
 clear ho hb
 refine zal (i:=18) rfl (by kernel_rfl) (by rfl) (zf1 _ _ _ A _ c (zcJ m) HA.out (Nat.le_refl _) (by have:=HWL.out;have:=HKey.out;omega) hHeld.2) (fun w=>by kernel_rfl) ?_
 rintro e w6 ⟨rfl,hb⟩
 have W6:=hide (W5.out.trans (hb.mono W5.out.size))
 refine ⟨_,rfl,hHeld.over hb,fun hHeld=>?_⟩
 refine rgN ?_
 clear hb
 refine rgV 20 (.bool (zuC m)) ?_ ?_
 ·(intro w' hSw;exact zmU (.tmp 21) (.tmp 22) rfl rfl rfl (zc6 (zcJ m)).w HM.out)
 refine rgT 21 ?_
 refine rgT 22 ?_
 refine wpAnyH_done (by kernel_rfl) ?_ _
 go_wp2
 go_ret
 exact ⟨rfl,W6.out⟩
theorem zoR (w:World) (m:Mr) (hm:m.W) (hkey:m.key.length≤140737488351232) (hN:za0 w)
  (HK:∀ x,za0 x→Calls Tryz.prog 205 #[.agg (mroC m)] x fun e w'=>e = .returned (.bool (keyX m))∧Below x.heap.size x w') :
  Calls Tryz.prog 188 #[.agg (mroC m)] w fun e w'=>e = .returned (.bool (zbf m))∧Below w.heap.size w w':=by
 rw [← znx hm]
 cases c1:kwn m.k
 ·simpa using right1 w m hm hkey hN HK c1
 cases c2:zi6 m
 ·simpa using right2 w m hm hkey hN HK c1 c2
 cases c3:keyX m
 ·simpa using right3 w m hm hkey hN HK c1 c2 c3
 cases c4:zn7 m
 ·simpa using right4 w m hm hkey hN HK c1 c2 c3 c4
 ·simpa using right5 w m hm hkey hN HK c1 c2 c3 c4
theorem keyNo (w:World) (m:Mr) (hm:m.W) (hkey:m.key.length≤140737488351232) (hN:za0 w) (hk:m.k≠4) :
  Calls Tryz.prog 205 #[.agg (mroC m)] w fun e w'=>e = .returned (.bool (keyX m))∧Below w.heap.size w w':=by
 have he:keyX m=true:=by unfold keyX;rw [if_neg hk]
 rw [he]
 have W0:=hide ((Below.refl w.heap.size w).alloc (Nat.le_refl _) (.cells (mroC m) 229))
 have HB:=hide (Blk.new w 229 (mroC m))
 have HN:=hide (hN.below W0.out)
 have HM:=hide hm
 have HKey:=hide hkey
 have k0:=zeW (m:=m)
 have HK4:Hid ((za5 m.k).getD 4 false=false):=hide (decide_eq_false hk)
 clear hm hN hkey
 go_enter Tryz.func205,Tryz.ntmps205
 go_wp2_with fail
 refine (zb0 _ m.k HN.out).mono ?_
 rintro e w1 ⟨rfl,hb1⟩
 have W1:=hide (zaa W0.out hb1 (Nat.le_refl _))
 clear hb1
 go_wp2_with (with_reducible refine zaU rfl (.tmp 6) (.const (.int .i64 4)) rfl m.k 4 (by decide) rfl rfl _ HK4.out ?_)
 go_ret
 exact ⟨rfl,W1.out⟩
theorem ziE (w:World) (m:Mr) (hm:m.W) (hkey:m.key.length≤140737488351232) (hN:za0 w) (hk:m.k≠4) :
  Calls Tryz.prog 188 #[.agg (mroC m)] w fun e w'=>e = .returned (.bool (zbf m))∧Below w.heap.size w w' :=
 zoR w m hm hkey hN (fun x hx=>keyNo x m hm hkey hx hk)
def MroT (x:World) (g:Nat) (m:Mr) (q:Nat) (r:Mr):Prop:=MroN x g m∧Blk x q 229 (mroC r)
theorem MroT.over {x y:World} {g q:Nat} {m r:Mr} (h:MroT x g m q r) (hb:Below x.heap.size x y):MroT y g m q r:=⟨h.1.over hb,h.2.over hb⟩
theorem MroT.load {x:World} {g q:Nat} {m r:Mr} (h:MroT x g m q r) (hr:r.W) {o:Oper} {a:Act} (u:Operand) (ho:o.op = .load 229 u) (hu:a.eval u = .pointer (some ⟨q,0,none⟩)) :
  (execOp a.eval o).run Tryz.prog x = .ok (.value (.agg (mroC r))) x:=zet u ho q hu h.2 hr
end
section
set_option maxRecDepth 20000
set_option maxHeartbeats 1000000
open Go.RowKit
theorem keyA (w:World) (m:Mr) (hm:m.W) (hkey:m.key.length≤140737488351232) (hN:za0 w) (hk:m.k=4) (c1:ansK (zbM m.key).k=false) :
  Calls Tryz.prog 205 #[.agg (mroC m)] w fun e w'=>e = .returned (.bool (false))∧Below w.heap.size w w':=by
 have W0:=hide ((Below.refl w.heap.size w).alloc (Nat.le_refl _) (.cells (mroC m) 229))
 have HB:=hide (Blk.new w 229 (mroC m))
 have HN:=hide (hN.below W0.out)
 have HM:=hide hm
 have HKey:=hide hkey
 have k0:=zeW (m:=m)
 have HK4:Hid ((za5 m.k).getD 4 false=true):=hide (decide_eq_true hk)
 have X:=hide (zc6 m.key)
 generalize hr:zbM m.key=r at *
 have HRR:=hide hr
 clear hm hN hkey hr hk
 go_enter Tryz.func205,Tryz.ntmps205
 go_wp2_with fail
 refine (zb0 _ m.k HN.out).mono ?_
 rintro e w1 ⟨rfl,hb1⟩
 have B1:=hide (HB.out.over hb1)
 have N1:=hide (HN.out.below hb1)
 have W1:=hide (zaa W0.out hb1 (Nat.le_refl _))
 clear hb1 HN
 go_wp2_with (first
  | (with_reducible refine zaU rfl (.tmp 6) (.const (.int .i64 4)) rfl m.k 4 (by decide) rfl rfl _ HK4.out ?_)
  | (with_reducible refine zay rfl (.tmp 1) rfl w.heap.size rfl B1.out HM.out ?_))
 refine (zgq w1 m HM.out HKey.out N1.out).mono ?_
 rw [HRR.out]
 rintro e w2 ⟨rfl,hb2⟩
 have B2:=hide (B1.out.over hb2)
 have N2:=hide (N1.out.below hb2)
 have W2:=hide (zaa W1.out hb2 (Nat.le_refl _))
 have NEW:=hide (Blk.new w2 229 zMro)
 clear hb2
 go_wp2_with (refine zar rfl (.tmp 3) (.tmp 10) rfl w2.heap.size rfl (m:=r) rfl X.out.w NEW.out rfl ?_;intro w3 hb3 hg3;have M3:=hide hb3;have W23:Hid (Below w2.heap.size w2 w3):=hide (((Below.refl _ _).alloc (Nat.le_refl _) _).grown hg3 (by simp) (by simp));clear hb3 hg3;refine Hid.out ?_)
 refine hide ?_
 clear NEW
 have HT:Hid (MroT w3 w.heap.size m w2.heap.size r):=hide ⟨⟨B2.out.over W23.out,N2.out.below W23.out⟩,M3.out⟩
 have W3:=hide (zam (zaa W2.out W23.out (Nat.le_refl _)))
 generalize w2.heap.size=q at *
 go_wp2_with fail
 refine wp_region_held_drew (S:=fun x=>MroT x w.heap.size m q r) (by kernel_rfl) HT.out (fun hHeld=>?_)
 refine rgT 0 ?_
 refine rgK 1 (fun w' hSw=>zb1 hSw.2) ?_
 refine zal (i:=2) rfl (by kernel_rfl) (by rfl) (zfc _ r.k) (fun w=>by kernel_rfl) ?_
 rw [c1]
 rintro e w4 ⟨rfl,rfl⟩
 refine ⟨_,rfl,hHeld,fun hHeld=>?_⟩
 refine rgN ?_
 refine rgT 3 ?_
 refine rgS 4 ?_
 refine rgS 5 ?_
 refine rgT 6 ?_
 refine rgT 7 ?_
 refine rgS 8 ?_
 refine rgS 9 ?_
 refine rgS 10 ?_
 refine rgS 11 ?_
 refine rgS 12 ?_
 refine rgS 13 ?_
 refine rgT 14 ?_
 refine rgT 15 ?_
 refine wpAnyH_done (by kernel_rfl) ?_ _
 go_wp2
 go_ret
 exact ⟨rfl,W3.out⟩
theorem keyB (w:World) (m:Mr) (hm:m.W) (hkey:m.key.length≤140737488351232) (hN:za0 w) (hk:m.k=4) (c1:ansK (zbM m.key).k=true) (c2:zbf (zbM m.key)=false) :
  Calls Tryz.prog 205 #[.agg (mroC m)] w fun e w'=>e = .returned (.bool (false))∧Below w.heap.size w w':=by
 have W0:=hide ((Below.refl w.heap.size w).alloc (Nat.le_refl _) (.cells (mroC m) 229))
 have HB:=hide (Blk.new w 229 (mroC m))
 have HN:=hide (hN.below W0.out)
 have HM:=hide hm
 have HKey:=hide hkey
 have k0:=zeW (m:=m)
 have HK4:Hid ((za5 m.k).getD 4 false=true):=hide (decide_eq_true hk)
 have X:=hide (zc6 m.key)
 generalize hr:zbM m.key=r at *
 have HRR:=hide hr
 clear hm hN hkey hr hk
 go_enter Tryz.func205,Tryz.ntmps205
 go_wp2_with fail
 refine (zb0 _ m.k HN.out).mono ?_
 rintro e w1 ⟨rfl,hb1⟩
 have B1:=hide (HB.out.over hb1)
 have N1:=hide (HN.out.below hb1)
 have W1:=hide (zaa W0.out hb1 (Nat.le_refl _))
 clear hb1 HN
 go_wp2_with (first
  | (with_reducible refine zaU rfl (.tmp 6) (.const (.int .i64 4)) rfl m.k 4 (by decide) rfl rfl _ HK4.out ?_)
  | (with_reducible refine zay rfl (.tmp 1) rfl w.heap.size rfl B1.out HM.out ?_))
 refine (zgq w1 m HM.out HKey.out N1.out).mono ?_
 rw [HRR.out]
 rintro e w2 ⟨rfl,hb2⟩
 have B2:=hide (B1.out.over hb2)
 have N2:=hide (N1.out.below hb2)
 have W2:=hide (zaa W1.out hb2 (Nat.le_refl _))
 have NEW:=hide (Blk.new w2 229 zMro)
 clear hb2
 go_wp2_with (refine zar rfl (.tmp 3) (.tmp 10) rfl w2.heap.size rfl (m:=r) rfl X.out.w NEW.out rfl ?_;intro w3 hb3 hg3;have M3:=hide hb3;have W23:Hid (Below w2.heap.size w2 w3):=hide (((Below.refl _ _).alloc (Nat.le_refl _) _).grown hg3 (by simp) (by simp));clear hb3 hg3;refine Hid.out ?_)
 refine hide ?_
 clear NEW
 have HT:Hid (MroT w3 w.heap.size m w2.heap.size r):=hide ⟨⟨B2.out.over W23.out,N2.out.below W23.out⟩,M3.out⟩
 have W3:=hide (zam (zaa W2.out W23.out (Nat.le_refl _)))
 generalize w2.heap.size=q at *
 go_wp2_with fail
 refine wp_region_held_drew (S:=fun x=>MroT x w.heap.size m q r) (by kernel_rfl) HT.out (fun hHeld=>?_)
 refine rgT 0 ?_
 refine rgK 1 (fun w' hSw=>zb1 hSw.2) ?_
 refine zal (i:=2) rfl (by kernel_rfl) (by rfl) (zfc _ r.k) (fun w=>by kernel_rfl) ?_
 rw [c1]
 rintro e w4 ⟨rfl,rfl⟩
 refine ⟨_,rfl,hHeld,fun hHeld=>?_⟩
 refine rgN ?_
 refine rgT 3 ?_
 refine rgV 4 (.agg (mroC r)) ?_ ?_
 ·(intro w' hSw;exact MroT.load hSw X.out.w (.tmp 3) rfl rfl)
 refine zal (i:=5) rfl (by kernel_rfl) (by rfl) (ziE _ r X.out.w (by rw [X.out.key (.inl (by rw [← X.out.kk];intro e;rw [e] at c1;cases c1))];simp) hHeld.1.2 (by intro e;rw [e] at c1;cases c1)) (fun w=>by kernel_rfl) ?_
 rw [c2]
 rintro e w5 ⟨rfl,hb5⟩
 have W5:=hide (W3.out.trans (hb5.mono W3.out.size))
 refine ⟨_,rfl,hHeld.over hb5,fun hHeld=>?_⟩
 refine rgN ?_
 clear hb5
 refine rgT 6 ?_
 refine rgT 7 ?_
 refine rgS 8 ?_
 refine rgS 9 ?_
 refine rgS 10 ?_
 refine rgS 11 ?_
 refine rgS 12 ?_
 refine rgS 13 ?_
 refine rgT 14 ?_
 refine rgT 15 ?_
 refine wpAnyH_done (by kernel_rfl) ?_ _
 go_wp2
 go_ret
 exact ⟨rfl,W5.out⟩
theorem keyC (w:World) (m:Mr) (hm:m.W) (hkey:m.key.length≤140737488351232) (hN:za0 w) (hk:m.k=4) (c1:ansK (zbM m.key).k=true) (c2:zbf (zbM m.key)=true) :
  Calls Tryz.prog 205 #[.agg (mroC m)] w fun e w'=>e = .returned (.bool (decide (zcJ (zbM m.key)=m.key)))∧Below w.heap.size w w':=by
 have W0:=hide ((Below.refl w.heap.size w).alloc (Nat.le_refl _) (.cells (mroC m) 229))
 have HB:=hide (Blk.new w 229 (mroC m))
 have HN:=hide (hN.below W0.out)
 have HM:=hide hm
 have HKey:=hide hkey
 have k0:=zeW (m:=m)
 have HK4:Hid ((za5 m.k).getD 4 false=true):=hide (decide_eq_true hk)
 have X:=hide (zc6 m.key)
 generalize hr:zbM m.key=r at *
 have HRR:=hide hr
 clear hm hN hkey hr hk
 go_enter Tryz.func205,Tryz.ntmps205
 go_wp2_with fail
 refine (zb0 _ m.k HN.out).mono ?_
 rintro e w1 ⟨rfl,hb1⟩
 have B1:=hide (HB.out.over hb1)
 have N1:=hide (HN.out.below hb1)
 have W1:=hide (zaa W0.out hb1 (Nat.le_refl _))
 clear hb1 HN
 go_wp2_with (first
  | (with_reducible refine zaU rfl (.tmp 6) (.const (.int .i64 4)) rfl m.k 4 (by decide) rfl rfl _ HK4.out ?_)
  | (with_reducible refine zay rfl (.tmp 1) rfl w.heap.size rfl B1.out HM.out ?_))
 refine (zgq w1 m HM.out HKey.out N1.out).mono ?_
 rw [HRR.out]
 rintro e w2 ⟨rfl,hb2⟩
 have B2:=hide (B1.out.over hb2)
 have N2:=hide (N1.out.below hb2)
 have W2:=hide (zaa W1.out hb2 (Nat.le_refl _))
 have NEW:=hide (Blk.new w2 229 zMro)
 clear hb2
 go_wp2_with (refine zar rfl (.tmp 3) (.tmp 10) rfl w2.heap.size rfl (m:=r) rfl X.out.w NEW.out rfl ?_;intro w3 hb3 hg3;have M3:=hide hb3;have W23:Hid (Below w2.heap.size w2 w3):=hide (((Below.refl _ _).alloc (Nat.le_refl _) _).grown hg3 (by simp) (by simp));clear hb3 hg3;refine Hid.out ?_)
 refine hide ?_
 clear NEW
 have HT:Hid (MroT w3 w.heap.size m w2.heap.size r):=hide ⟨⟨B2.out.over W23.out,N2.out.below W23.out⟩,M3.out⟩
 have W3:=hide (zam (zaa W2.out W23.out (Nat.le_refl _)))
 generalize w2.heap.size=q at *
 go_wp2_with fail
 refine wp_region_held_drew (S:=fun x=>MroT x w.heap.size m q r) (by kernel_rfl) HT.out (fun hHeld=>?_)
 refine rgT 0 ?_
 refine rgK 1 (fun w' hSw=>zb1 hSw.2) ?_
 refine zal (i:=2) rfl (by kernel_rfl) (by rfl) (zfc _ r.k) (fun w=>by kernel_rfl) ?_
 rw [c1]
 rintro e w4 ⟨rfl,rfl⟩
 refine ⟨_,rfl,hHeld,fun hHeld=>?_⟩
 refine rgN ?_
 refine rgT 3 ?_
 refine rgV 4 (.agg (mroC r)) ?_ ?_
 ·(intro w' hSw;exact MroT.load hSw X.out.w (.tmp 3) rfl rfl)
 refine zal (i:=5) rfl (by kernel_rfl) (by rfl) (ziE _ r X.out.w (by rw [X.out.key (.inl (by rw [← X.out.kk];intro e;rw [e] at c1;cases c1))];simp) hHeld.1.2 (by intro e;rw [e] at c1;cases c1)) (fun w=>by kernel_rfl) ?_
 rw [c2]
 rintro e w5 ⟨rfl,hb5⟩
 have W5:=hide (W3.out.trans (hb5.mono W3.out.size))
 refine ⟨_,rfl,hHeld.over hb5,fun hHeld=>?_⟩
 refine rgN ?_
 clear hb5
 refine rgT 6 ?_
 refine rgT 7 ?_
 refine rgV 8 (.agg (mroC r)) ?_ ?_
 ·(intro w' hSw;exact MroT.load hSw X.out.w (.tmp 3) rfl rfl)
 refine rgT 11 ?_
 refine rgK 12 (fun w' hSw=>(hSw.1.1.cell 61).trans (zk1 HM.out)) ?_
 refine zal (i:=9) rfl (by kernel_rfl) (by rfl) (zh6 _ r X.out.w (zmz ((zbs r).1 c2).core) (by rw [X.out.key (.inl (by rw [← X.out.kk];intro e;rw [e] at c1;cases c1))];simp) hHeld.1.2) (fun w=>by kernel_rfl) ?_
 rintro e w6 ⟨v,rfl,ho6,hb6⟩
 obtain ⟨A,c,rfl,_,_⟩:=zag ho6
 have W6:=hide (W5.out.trans (hb6.mono W5.out.size))
 have HA:=hide (At.own ho6)
 refine ⟨_,rfl,hHeld.over hb6,fun hHeld=>?_⟩
 refine rgN ?_
 clear ho6 hb6
 refine zaE (i:=10) (v:=(.string ⟨(zcJ r).toArray⟩)) rfl (by kernel_rfl) (by rfl) (zed rfl rfl (At.text HA.out 22 5 Tryz.underlying22 Tryz.underlying5 _ 9 Tryz.underlying9)) (hHeld) (fun hHeld=>?_)
 refine rgN ?_
 refine rgV 13 (.bool (decide (zcJ r=m.key))) ?_ ?_
 ·(intro w' hSw;exact zhy (.tmp 21) (.tmp 23) rfl rfl rfl)
 refine rgT 14 ?_
 refine rgT 15 ?_
 refine wpAnyH_done (by kernel_rfl) ?_ _
 go_wp2
 go_ret
 exact ⟨rfl,W6.out⟩
theorem zl8 (w:World) (m:Mr) (hm:m.W) (hkey:m.key.length≤140737488351232) (hN:za0 w) :
  Calls Tryz.prog 205 #[.agg (mroC m)] w fun e w'=>e = .returned (.bool (keyX m))∧Below w.heap.size w w':=by
 by_cases hk:m.k=4
 ·unfold keyX
  rw [if_pos hk]
  cases c1:ansK (zbM m.key).k
  ·simpa using keyA w m hm hkey hN hk c1
  cases c2:zbf (zbM m.key)
  ·simpa using keyB w m hm hkey hN hk c1 c2
  ·simpa using keyC w m hm hkey hN hk c1 c2
 ·exact keyNo w m hm hkey hN hk
theorem zj7 (w:World) (m:Mr) (hm:m.W) (hkey:m.key.length≤140737488351232) (hN:za0 w) :
  Calls Tryz.prog 188 #[.agg (mroC m)] w fun e w'=>e = .returned (.bool (zbf m))∧Below w.heap.size w w' :=
 zoR w m hm hkey hN (fun x hx=>zl8 x m hm hkey hx)
end
section
open Go.RowKit
def outB (m:Mr):List UInt8:=if zbf m=true then zaC m else []
def errB (m:Mr):Int:=if zbf m=true then 0 else 1
set_option maxRecDepth 20000 in
set_option maxHeartbeats 1000000 in
theorem zg1 (w:World) (m:Mr) (hm:m.W) (hkey:m.key.length≤140737488351232) (hN:za0 w) :
  Calls Tryz.prog 172 #[.agg (mroC m)] w fun e w'=>∃ v,e = .returned (.tuple #[v,.int .i64 (errB m)])∧w'.ownsRow w.heap.size 5 1 v (outB m).length (bvs (outB m))∧Below w.heap.size w w':=by
 have W0:=hide ((Below.refl w.heap.size w).alloc (Nat.le_refl _) (.cells (mroC m) 229))
 have HB:=hide (Blk.new w 229 (mroC m))
 have HN:=hide (hN.below W0.out)
 have HM:=hide hm
 have HKey:=hide hkey
 clear hm hkey hN
 cases hr:zbf m
 ·have h1:outB m=[]:=by unfold outB;rw [hr];rfl
  have h2:errB m=1:=by unfold errB;rw [hr];rfl
  rw [h1,h2]
  have HR:=hide hr
  clear hr h1 h2
  go_enter Tryz.func172,Tryz.ntmps172
  go_wp2_with (with_reducible refine zay rfl (.tmp 1) rfl w.heap.size rfl HB.out HM.out ?_)
  refine (zj7 _ m HM.out HKey.out HN.out).mono ?_
  rw [HR.out]
  rintro e w1 ⟨rfl,hb1⟩
  have W1:=hide (zaa W0.out hb1 (Nat.le_refl _))
  clear hb1
  go_wp2
  go_ret2
  exact ⟨_,rfl,World.ownsRow_nil _ _ _ _,W1.out⟩
 ·have h1:outB m=zcJ m:=by unfold outB;rw [hr,zkK HM.out hr];rfl
  have h2:errB m=0:=by unfold errB;rw [hr];rfl
  rw [h1,h2]
  have HR:=hide hr
  clear hr h1 h2
  go_enter Tryz.func172,Tryz.ntmps172
  go_wp2_with (with_reducible refine zay rfl (.tmp 1) rfl w.heap.size rfl HB.out HM.out ?_)
  refine (zj7 _ m HM.out HKey.out HN.out).mono ?_
  rw [HR.out]
  rintro e w1 ⟨rfl,hb1⟩
  have B1:=hide (HB.out.over hb1)
  have N1:=hide (HN.out.below hb1)
  have W1:=hide (zaa W0.out hb1 (Nat.le_refl _))
  have hs1:=W1.out.size
  clear hb1
  go_wp2_with (with_reducible refine zay rfl (.tmp 1) rfl w.heap.size rfl B1.out HM.out ?_)
  refine (zh6 _ m HM.out (zmz ((zbs m).1 HR.out).core) HKey.out N1.out).mono ?_
  rintro e w2 ⟨v,rfl,ho2,hb2⟩
  have HO:=hide (zaA ho2 hs1)
  have W2:=hide (zaa W1.out hb2 (Nat.le_refl _))
  clear ho2 hb2
  go_wp2
  go_ret2
  exact ⟨_,rfl,HO.out,W2.out⟩
open Go.RowKit
theorem zkM {fn:Func} {R:Ending→World→Prop} {a:Act} {w:World} {p q:Tmp} {g:Nat} {t:TypeId} {m:Mr} {v:Value} (hf:fn.results=#[.cell p 229,.tmp q])
  (hp:a.tmps.getD p undef = .pointer (some ⟨g,0,none⟩)) (hq:a.tmps.getD q undef=v) (h:Blk w g t (mroC m)) (hm:m.W) (hd:a.defers=[]) (hR:R (.returned (.tuple #[.agg (mroC m),v])) w) :
  bodyPost Tryz.prog fn R .ret a w:=by
 refine bodyPost_ret (v:=.tuple #[.agg (mroC m),v]) ?_ hd hR
 have hp':a.tmps[p]?.getD undef = .pointer (some ⟨g,0,none⟩):=by simpa using hp
 have hq':a.tmps[q]?.getD undef=v:=by simpa using hq
 simp [results,hf,hp',hq',asAddr,zh0 h hm]
theorem zqZ:Tryz.prog.built 229 []=some (mroC (zcW 0)):=by kernel_rfl
theorem zbh {ops:Array Oper} {rest:List Oper} {o:Oper} {a:Act} {w:World} {Q:Exit→Act→World→Prop} (hgd:o.guard=none) (ho:o.op = .build 229 #[])
  (hk:wpList Tryz.prog ops Q rest (a.put o.dst (.agg (mroC (zcW 0)))) w):wpList Tryz.prog ops Q (o::rest) a w:=by
 refine wpList_plain hgd fun K hK'=>?_
 unfold Oper.wp execOp
 simp only [ho,List.map_toArray,List.map_nil,Sem.run_bind,run_build w _ _ _ zqZ,Result.andThen_ok,Sem.run_pure]
 exact hK' _ _ hk
end
end Go.Proofs.YtjindligkhdddaaGreatDoor
