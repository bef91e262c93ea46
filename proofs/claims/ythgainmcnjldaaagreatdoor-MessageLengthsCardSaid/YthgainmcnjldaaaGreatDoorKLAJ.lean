/-
  What Bytes of package pmsi does, in whatever memory. No condition beyond sizes that fit memory.
-/
import Derived.Test.YthgainmcnjldaaaGreatDoorKLAI
set_option linter.unusedVariables false
set_option linter.unusedSimpArgs false
namespace Go.Proofs.YthgainmcnjldaaaGreatDoor
section
open Go.RowKit
theorem zsC {w:World} {g:Nat} {t:TypeId} {cs:Array Value} (a b:UInt8) (h:Blk w g t cs) (hc:cs=#[.int .u8 (a.toNat:Int),.int .u8 (b.toNat:Int)]):At w 0 (g+1) (some ⟨g,0,none⟩) 2 [a,b]:=by
 subst hc
 refine ⟨rfl,fun _=>⟨_,0,rfl,Nat.zero_le _,by omega,fun j u hu=>?_⟩⟩
 rw [Nat.zero_add,h.cell j]
 match j,hu with
 | 0,hu=>simp at hu;subst hu;rfl
 | 1,hu=>simp at hu;subst hu;rfl
set_option maxRecDepth 20000 in
set_option maxHeartbeats 8000000 in
theorem znW (w:World) (lf:Bool) (k l s:Int) (bs:List UInt8) (A:Option Addr) (n c hi:Nat) (id:List UInt8) (hA:At w 0 hi A n id) (hh:hi≤w.heap.size) (hl:bs.length=16) (hc:n≤c)
  (hr:zdR ⟨lf,k,l,s,bs,id⟩=true) :
  Calls Tryz.prog 176 #[.agg (tunC lf k l s bs (.slice A n c))] w fun e w'=>∃ v,e = .returned (.tuple #[v,.int .i64 0]) ∧
   w'.ownsRow w.heap.size 5 1 v (zh1 ⟨lf,k,l,s,bs,id⟩).length (bvs (zh1 ⟨lf,k,l,s,bs,id⟩))∧Below w.heap.size w w':=by
 have HR:=hide hr
 unfold zdR at hr
 simp only [Bool.and_eq_true,decide_eq_true_eq] at hr
 obtain ⟨⟨hl0,hl1⟩,hra,hid⟩:=hr
 have hk:=ziq hid
 obtain ⟨L,rfl⟩:∃ L:Nat,l=(L:Int):=⟨l.toNat,by omega⟩
 have HL:=hide hl
 have HRA:=hide hra
 have HID:=hide hid
 have HC:=hide hc
 have HL1:Hid (L≤1048575):=hide (by omega)
 have HN:=hide (Blk.new w 111 (tunC lf k L s bs (.slice A n c)))
 have HA:=hide (hA.alloc hh (.cells (tunC lf k L s bs (.slice A n c)) 111))
 have W0:Hid (Below w.heap.size w (w.alloc (.cells (tunC lf k L s bs (.slice A n c)) 111))):=hide ((Below.refl _ _).alloc (Nat.le_refl _) _)
 have hz:=hide (Nat.le_trans hh W0.out.size)
 have HID6:Hid (id.length≤64):=hide (by
  unfold zcB at hid
  rcases hk with rfl | rfl | rfl | rfl | rfl | rfl | rfl | rfl <;> simp at hid
  all_goals first | omega | (obtain ⟨h1,h2⟩:=hid;first | (subst h2;simp) | (have:=zcx hra;omega)))
 have HLN:Hid ((za6 k s bs id).length≤1000):=hide (by
  have h1:=zdL hl hra
  have h2:=zcx hra
  have h3:=HID6.out
  unfold za6
  rcases hk with rfl | rfl | rfl | rfl | rfl | rfl | rfl | rfl <;> simp [zdn,zaW] <;> omega)
 clear hA hl hra hid hl0 hl1 hc
 obtain ⟨K,rfl⟩:∃ K:Nat,k=(K:Int):=⟨k.toNat,by omega⟩
 have hkI:(K:Int)<256:=by omega
 have HKB:Hid ((UInt8.ofNat K).toNat=K):=hide (by simp;omega)
 clear hk
 cases lf
 ·have HV:Hid (zh1 ⟨false,(K:Int),L,s,bs,id⟩=[[0,UInt8.ofNat K],zdk L false,za6 (K:Int) s bs id].flatten):=hide (by simp [zh1,znR])
  have HCL:Hid ((zdk L false).length=3):=hide (by unfold zdk;rw [zaW])
  go_enter Tryz.func176,Tryz.ntmps176
  go_wp2_with (with_reducible refine zb3 rfl (.tmp 1) rfl w.heap.size rfl HN.out HL.out ?_)
  refine (zfT _ false (K:Int) L s bs A n c 0 hi id HA.out hz.out HL.out).mono ?_
  rw [HR.out]
  rintro e w1 ⟨rfl,hb1⟩
  have B1:=hide (HN.out.over hb1)
  have k0:=(B1.out.cell 0).trans (zml false (K:Int) L s (.slice A n c) bs)
  have k1:=(B1.out.cell 1).trans (zg0 false (K:Int) L s (.slice A n c) bs)
  have k2:=(B1.out.cell 2).trans (zjN false (K:Int) L s (.slice A n c) bs)
  have W1:=hide (zaa W0.out hb1 (Nat.le_refl _))
  have A1:=hide (HA.out.below (hb1.mono hz.out))
  have hgt:w.heap.size<w1.heap.size:=B1.out.lt
  clear hb1
  go_wp2_with fail
  refine (zfE _ L false HL1.out).mono ?_
  rintro e w2 ⟨v2,rfl,ho2,hb2⟩
  obtain ⟨A2,c2,rfl,_,_⟩:=zac ho2
  have hw1:hi≤w1.heap.size:=Nat.le_trans hh (Nat.le_of_lt hgt)
  have hw2:w1.heap.size+1≤w2.heap.size:=by have:=hb2.size;simpa using this
  have HH:=hide (zsC 0 (UInt8.ofNat K) ((Blk.new w1 5 #[.int .u8 0,.int .u8 (K:Int)]).over hb2) (by rw [HKB.out];rfl))
  have B2:=hide ((B1.out.alloc (.cells #[.int .u8 0,.int .u8 (K:Int)] 5)).over hb2)
  have AI2:=hide ((A1.out.alloc hw1 (.cells #[.int .u8 0,.int .u8 (K:Int)] 5)).below (hb2.mono (Nat.le_trans hw1 (by simp))))
  have W2:=hide (zaa (W1.out.alloc W1.out.size (.cells #[.int .u8 0,.int .u8 (K:Int)] 5)) hb2 (Nat.le_refl _))
  have HO2:=hide ho2
  have hz2:hi≤w2.heap.size:=by omega
  clear hb2 ho2 k0 k1 k2
  go_wp2_with (with_reducible refine zb3 rfl (.tmp 1) rfl w.heap.size rfl B2.out HL.out ?_)
  refine (zeH _ false (K:Int) L s bs A n c hi id AI2.out hz2 HL.out HC.out HRA.out HID.out).mono ?_
  rintro e w3 ⟨v3,rfl,ho3,hb3⟩
  obtain ⟨A3,c3,rfl,_,_⟩:=zac ho3
  have hw3:=hb3.size
  have W3:=hide (zaa W2.out hb3 (Nat.le_refl _))
  have RW:=rows3 (c1:=2) (c2:=c2) (c3:=c3) (((HH.out.below (hb3.mono hw2)).alloc (by omega) (.cells #[.slice (some ⟨w1.heap.size,0,none⟩) 2 2,.slice A2 3 c2,.slice A3 (za6 (K:Int) s bs id).length c3] 22)).more (Nat.le_refl _) (show w1.heap.size+1≤(w3.alloc (.cells #[.slice (some ⟨w1.heap.size,0,none⟩) 2 2,.slice A2 3 c2,.slice A3 (za6 (K:Int) s bs id).length c3] 22)).heap.size by simp;omega))
   (((At.own (za1 HO2.out hb3)).alloc (Nat.le_refl _) (.cells #[.slice (some ⟨w1.heap.size,0,none⟩) 2 2,.slice A2 3 c2,.slice A3 (za6 (K:Int) s bs id).length c3] 22)).more (Nat.zero_le _) (by simp)) (((At.own ho3).alloc (Nat.le_refl _) (.cells #[.slice (some ⟨w1.heap.size,0,none⟩) 2 2,.slice A2 3 c2,.slice A3 (za6 (K:Int) s bs id).length c3] 22)).more (Nat.zero_le _) (by simp))
  have hsum:[[0,UInt8.ofNat K],zdk L false,za6 (K:Int) s bs id].flatten.length≤140737488351000:=by have h1:=HCL.out;have h2:=HLN.out;simp;omega
  have HRW:=hide RW
  have HSUM:=hide hsum
  clear ho3 hb3 RW hsum
  go_wp2_with fail
  refine (zbE _ w3.heap.size 22 _ [[0,UInt8.ofNat K],zdk L false,za6 (K:Int) s bs id] 3 rfl (by decide) (Blk.new w3 _ _) HRW.out HSUM.out).mono ?_
  rintro e w4 ⟨v4,rfl,ho4,hb4⟩
  have HO4:=hide ho4
  have W4:=hide (zaa (W3.out.alloc W3.out.size (.cells #[.slice (some ⟨w1.heap.size,0,none⟩) 2 2,.slice A2 3 c2,.slice A3 (za6 (K:Int) s bs id).length c3] 22)) hb4 (Nat.le_refl _))
  have hz4:w.heap.size≤(w3.alloc (.cells #[.slice (some ⟨w1.heap.size,0,none⟩) 2 2,.slice A2 3 c2,.slice A3 (za6 (K:Int) s bs id).length c3] 22)).heap.size:=by simp;omega
  clear ho4 hb4
  go_wp2
  go_ret2
  exact ⟨_,rfl,by rw [HV.out];exact zaC HO4.out hz4,W4.out⟩
 ·have HV:Hid (zh1 ⟨true,(K:Int),L,s,bs,id⟩=[[1,UInt8.ofNat K],zdk L false,za6 (K:Int) s bs id].flatten):=hide (by simp [zh1,znR])
  have HCL:Hid ((zdk L false).length=3):=hide (by unfold zdk;rw [zaW])
  go_enter Tryz.func176,Tryz.ntmps176
  go_wp2_with (with_reducible refine zb3 rfl (.tmp 1) rfl w.heap.size rfl HN.out HL.out ?_)
  refine (zfT _ true (K:Int) L s bs A n c 0 hi id HA.out hz.out HL.out).mono ?_
  rw [HR.out]
  rintro e w1 ⟨rfl,hb1⟩
  have B1:=hide (HN.out.over hb1)
  have k0:=(B1.out.cell 0).trans (zml true (K:Int) L s (.slice A n c) bs)
  have k1:=(B1.out.cell 1).trans (zg0 true (K:Int) L s (.slice A n c) bs)
  have k2:=(B1.out.cell 2).trans (zjN true (K:Int) L s (.slice A n c) bs)
  have W1:=hide (zaa W0.out hb1 (Nat.le_refl _))
  have A1:=hide (HA.out.below (hb1.mono hz.out))
  have hgt:w.heap.size<w1.heap.size:=B1.out.lt
  clear hb1
  go_wp2_with fail
  refine (zfE _ L false HL1.out).mono ?_
  rintro e w2 ⟨v2,rfl,ho2,hb2⟩
  obtain ⟨A2,c2,rfl,_,_⟩:=zac ho2
  have hw1:hi≤w1.heap.size:=Nat.le_trans hh (Nat.le_of_lt hgt)
  have hw2:w1.heap.size+1≤w2.heap.size:=by have:=hb2.size;simpa using this
  have HH:=hide (zsC 1 (UInt8.ofNat K) ((Blk.new w1 5 #[.int .u8 1,.int .u8 (K:Int)]).over hb2) (by rw [HKB.out];rfl))
  have B2:=hide ((B1.out.alloc (.cells #[.int .u8 1,.int .u8 (K:Int)] 5)).over hb2)
  have AI2:=hide ((A1.out.alloc hw1 (.cells #[.int .u8 1,.int .u8 (K:Int)] 5)).below (hb2.mono (Nat.le_trans hw1 (by simp))))
  have W2:=hide (zaa (W1.out.alloc W1.out.size (.cells #[.int .u8 1,.int .u8 (K:Int)] 5)) hb2 (Nat.le_refl _))
  have HO2:=hide ho2
  have hz2:hi≤w2.heap.size:=by omega
  clear hb2 ho2 k0 k1 k2
  go_wp2_with (with_reducible refine zb3 rfl (.tmp 1) rfl w.heap.size rfl B2.out HL.out ?_)
  refine (zeH _ true (K:Int) L s bs A n c hi id AI2.out hz2 HL.out HC.out HRA.out HID.out).mono ?_
  rintro e w3 ⟨v3,rfl,ho3,hb3⟩
  obtain ⟨A3,c3,rfl,_,_⟩:=zac ho3
  have hw3:=hb3.size
  have W3:=hide (zaa W2.out hb3 (Nat.le_refl _))
  have RW:=rows3 (c1:=2) (c2:=c2) (c3:=c3) (((HH.out.below (hb3.mono hw2)).alloc (by omega) (.cells #[.slice (some ⟨w1.heap.size,0,none⟩) 2 2,.slice A2 3 c2,.slice A3 (za6 (K:Int) s bs id).length c3] 22)).more (Nat.le_refl _) (show w1.heap.size+1≤(w3.alloc (.cells #[.slice (some ⟨w1.heap.size,0,none⟩) 2 2,.slice A2 3 c2,.slice A3 (za6 (K:Int) s bs id).length c3] 22)).heap.size by simp;omega))
   (((At.own (za1 HO2.out hb3)).alloc (Nat.le_refl _) (.cells #[.slice (some ⟨w1.heap.size,0,none⟩) 2 2,.slice A2 3 c2,.slice A3 (za6 (K:Int) s bs id).length c3] 22)).more (Nat.zero_le _) (by simp)) (((At.own ho3).alloc (Nat.le_refl _) (.cells #[.slice (some ⟨w1.heap.size,0,none⟩) 2 2,.slice A2 3 c2,.slice A3 (za6 (K:Int) s bs id).length c3] 22)).more (Nat.zero_le _) (by simp))
  have hsum:[[1,UInt8.ofNat K],zdk L false,za6 (K:Int) s bs id].flatten.length≤140737488351000:=by have h1:=HCL.out;have h2:=HLN.out;simp;omega
  have HRW:=hide RW
  have HSUM:=hide hsum
  clear ho3 hb3 RW hsum
  go_wp2_with fail
  refine (zbE _ w3.heap.size 22 _ [[1,UInt8.ofNat K],zdk L false,za6 (K:Int) s bs id] 3 rfl (by decide) (Blk.new w3 _ _) HRW.out HSUM.out).mono ?_
  rintro e w4 ⟨v4,rfl,ho4,hb4⟩
  have HO4:=hide ho4
  have W4:=hide (zaa (W3.out.alloc W3.out.size (.cells #[.slice (some ⟨w1.heap.size,0,none⟩) 2 2,.slice A2 3 c2,.slice A3 (za6 (K:Int) s bs id).length c3] 22)) hb4 (Nat.le_refl _))
  have hz4:w.heap.size≤(w3.alloc (.cells #[.slice (some ⟨w1.heap.size,0,none⟩) 2 2,.slice A2 3 c2,.slice A3 (za6 (K:Int) s bs id).length c3] 22)).heap.size:=by simp;omega
  clear ho4 hb4
  go_wp2
  go_ret2
  exact ⟨_,rfl,by rw [HV.out];exact zaC HO4.out hz4,W4.out⟩
end
end Go.Proofs.YthgainmcnjldaaaGreatDoor
