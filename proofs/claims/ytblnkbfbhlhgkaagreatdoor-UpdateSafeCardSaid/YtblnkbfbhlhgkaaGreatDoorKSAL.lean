/-
  What Bytes of package pmsi does, in whatever memory. No condition beyond sizes that fit memory.
-/
import Derived.Test.YtblnkbfbhlhgkaaGreatDoorKSAJ
import Derived.Test.YtblnkbfbhlhgkaaGreatDoorKSAK
set_option linter.unusedVariables false
set_option linter.unusedSimpArgs false
namespace Go.Proofs.YtblnkbfbhlhgkaaGreatDoor
section
open Go.RowKit
theorem zr8 (w:World) (lf:Bool) (k l s:Int) (bs:List UInt8) (A:Option Addr) (n c hi:Nat) (id:List UInt8) (hA:At w 0 hi A n id) (hh:hi≤w.heap.size) (hl:bs.length=16)
  (hr:zcK ⟨lf,k,l,s,bs,id⟩=false) :
  Calls Tryz.prog 150 #[.agg (tunC lf k l s bs (.slice A n c))] w fun e w'=>e = .returned (.tuple #[.slice none 0 0,.int .i64 1])∧Below w.heap.size w w':=by
 have HL:=hide hl
 have HR:=hide hr
 have HN:=hide (Blk.new w 88 (tunC lf k l s bs (.slice A n c)))
 have HA:=hide (hA.alloc hh (.cells (tunC lf k l s bs (.slice A n c)) 88))
 have W0:Hid (Below w.heap.size w (w.alloc (.cells (tunC lf k l s bs (.slice A n c)) 88))):=hide ((Below.refl _ _).alloc (Nat.le_refl _) _)
 have hz:=hide (Nat.le_trans hh W0.out.size)
 clear hA hl hr
 go_enter Tryz.func150,Tryz.ntmps150
 go_wp2_with (with_reducible refine zaj rfl (.tmp 1) rfl w.heap.size rfl HN.out HL.out ?_)
 refine (zbb _ lf k l s bs A n c 0 hi id HA.out hz.out HL.out).mono ?_
 rw [HR.out]
 rintro e w1 ⟨rfl,hb1⟩
 have W1:=hide (zaa W0.out hb1 (Nat.le_refl _))
 clear hb1
 go_wp2
 go_ret2
 exact ⟨rfl,W1.out⟩
theorem zdG {w:World} {g:Nat} {t:TypeId} {cs:Array Value} (a b:UInt8) (h:Blk w g t cs) (hc:cs=#[.int .u8 (a.toNat:Int),.int .u8 (b.toNat:Int)]):At w 0 (g+1) (some ⟨g,0,none⟩) 2 [a,b]:=by
 subst hc
 refine ⟨rfl,fun _=>⟨_,0,rfl,Nat.zero_le _,by omega,fun j u hu=>?_⟩⟩
 rw [Nat.zero_add,h.cell j]
 match j,hu with
 | 0,hu=>simp at hu;subst hu;rfl
 | 1,hu=>simp at hu;subst hu;rfl
set_option maxRecDepth 20000 in
set_option maxHeartbeats 8000000 in
theorem zj2 (w:World) (lf:Bool) (k l s:Int) (bs:List UInt8) (A:Option Addr) (n c hi:Nat) (id:List UInt8) (hA:At w 0 hi A n id) (hh:hi≤w.heap.size) (hl:bs.length=16) (hc:n≤c)
  (hr:zcK ⟨lf,k,l,s,bs,id⟩=true) :
  Calls Tryz.prog 150 #[.agg (tunC lf k l s bs (.slice A n c))] w fun e w'=>∃ v,e = .returned (.tuple #[v,.int .i64 0]) ∧
   w'.ownsRow w.heap.size 5 1 v (zbS ⟨lf,k,l,s,bs,id⟩).length (bvs (zbS ⟨lf,k,l,s,bs,id⟩))∧Below w.heap.size w w':=by
 have HR:=hide hr
 unfold zcK at hr
 simp only [Bool.and_eq_true,decide_eq_true_eq] at hr
 obtain ⟨⟨hl0,hl1⟩,hra,hid⟩:=hr
 have hk:=zjY hid
 obtain ⟨L,rfl⟩:∃ L:Nat,l=(L:Int):=⟨l.toNat,by omega⟩
 have HL:=hide hl
 have HRA:=hide hra
 have HID:=hide hid
 have HC:=hide hc
 have HL1:Hid (L≤1048575):=hide (by omega)
 have HN:=hide (Blk.new w 88 (tunC lf k L s bs (.slice A n c)))
 have HA:=hide (hA.alloc hh (.cells (tunC lf k L s bs (.slice A n c)) 88))
 have W0:Hid (Below w.heap.size w (w.alloc (.cells (tunC lf k L s bs (.slice A n c)) 88))):=hide ((Below.refl _ _).alloc (Nat.le_refl _) _)
 have hz:=hide (Nat.le_trans hh W0.out.size)
 have HID6:Hid (id.length≤64):=hide (by
  unfold zbx at hid
  rcases hk with rfl | rfl | rfl | rfl | rfl | rfl | rfl | rfl <;> simp at hid
  all_goals first | omega | (obtain ⟨h1,h2⟩:=hid;first | (subst h2;simp) | (have:=zdv hra;omega)))
 have HLN:Hid ((zai k s bs id).length≤1000):=hide (by
  have h1:=zeO hl hra
  have h2:=zdv hra
  have h3:=HID6.out
  unfold zai
  rcases hk with rfl | rfl | rfl | rfl | rfl | rfl | rfl | rfl <;> simp [zc7,zbg] <;> omega)
 clear hA hl hra hid hl0 hl1 hc
 rcases hk with rfl | rfl | rfl | rfl | rfl | rfl | rfl | rfl
 ·cases lf
  ·have HV:Hid (zbS ⟨false,0,L,s,bs,id⟩=[[0,0],zaK L false,zai 0 s bs id].flatten):=hide (by simp [zbS,zd6])
   have HCL:Hid ((zaK L false).length=3):=hide (by unfold zaK;rw [zbg])
   go_enter Tryz.func150,Tryz.ntmps150
   go_wp2_with (with_reducible refine zaj rfl (.tmp 1) rfl w.heap.size rfl HN.out HL.out ?_)
   refine (zbb _ false 0 L s bs A n c 0 hi id HA.out hz.out HL.out).mono ?_
   rw [HR.out]
   rintro e w1 ⟨rfl,hb1⟩
   have B1:=hide (HN.out.over hb1)
   have k0:=(B1.out.cell 0).trans (zcY false 0 L s (.slice A n c) bs)
   have k1:=(B1.out.cell 1).trans (zcu false 0 L s (.slice A n c) bs)
   have k2:=(B1.out.cell 2).trans (zcL false 0 L s (.slice A n c) bs)
   have W1:=hide (zaa W0.out hb1 (Nat.le_refl _))
   have A1:=hide (HA.out.below (hb1.mono hz.out))
   have hgt:w.heap.size<w1.heap.size:=B1.out.lt
   clear hb1
   go_wp2_with fail
   refine (zbt _ L false HL1.out).mono ?_
   rintro e w2 ⟨v2,rfl,ho2,hb2⟩
   obtain ⟨A2,c2,rfl,_,_⟩:=zac ho2
   have hw1:hi≤w1.heap.size:=Nat.le_trans hh (Nat.le_of_lt hgt)
   have hw2:w1.heap.size+1≤w2.heap.size:=by have:=hb2.size;simpa using this
   have HH:=hide (zdG 0 0 ((Blk.new w1 5 #[.int .u8 0,.int .u8 0]).over hb2) rfl)
   have B2:=hide ((B1.out.alloc (.cells #[.int .u8 0,.int .u8 0] 5)).over hb2)
   have AI2:=hide ((A1.out.alloc hw1 (.cells #[.int .u8 0,.int .u8 0] 5)).below (hb2.mono (Nat.le_trans hw1 (by simp))))
   have W2:=hide (zaa (W1.out.alloc W1.out.size (.cells #[.int .u8 0,.int .u8 0] 5)) hb2 (Nat.le_refl _))
   have HO2:=hide ho2
   have hz2:hi≤w2.heap.size:=by omega
   clear hb2 ho2 k0 k1 k2
   go_wp2_with (with_reducible refine zaj rfl (.tmp 1) rfl w.heap.size rfl B2.out HL.out ?_)
   refine (zaN _ false 0 L s bs A n c hi id AI2.out hz2 HL.out HC.out HRA.out HID.out).mono ?_
   rintro e w3 ⟨v3,rfl,ho3,hb3⟩
   obtain ⟨A3,c3,rfl,_,_⟩:=zac ho3
   have hw3:=hb3.size
   have W3:=hide (zaa W2.out hb3 (Nat.le_refl _))
   have RW:=zfD (c1:=2) (c2:=c2) (c3:=c3) (((HH.out.below (hb3.mono hw2)).alloc (by omega) (.cells #[.slice (some ⟨w1.heap.size,0,none⟩) 2 2,.slice A2 3 c2,.slice A3 (zai 0 s bs id).length c3] 36)).more (Nat.le_refl _) (show w1.heap.size+1≤(w3.alloc (.cells #[.slice (some ⟨w1.heap.size,0,none⟩) 2 2,.slice A2 3 c2,.slice A3 (zai 0 s bs id).length c3] 36)).heap.size by simp;omega))
    (((At.own (zaw HO2.out hb3)).alloc (Nat.le_refl _) (.cells #[.slice (some ⟨w1.heap.size,0,none⟩) 2 2,.slice A2 3 c2,.slice A3 (zai 0 s bs id).length c3] 36)).more (Nat.zero_le _) (by simp)) (((At.own ho3).alloc (Nat.le_refl _) (.cells #[.slice (some ⟨w1.heap.size,0,none⟩) 2 2,.slice A2 3 c2,.slice A3 (zai 0 s bs id).length c3] 36)).more (Nat.zero_le _) (by simp))
   have hsum:[[0,0],zaK L false,zai 0 s bs id].flatten.length≤140737488351000:=by have h1:=HCL.out;have h2:=HLN.out;simp;omega
   have HRW:=hide RW
   have HSUM:=hide hsum
   clear ho3 hb3 RW hsum
   go_wp2_with fail
   refine (zaR _ w3.heap.size 36 _ [[0,0],zaK L false,zai 0 s bs id] 3 rfl (by decide) (Blk.new w3 _ _) HRW.out HSUM.out).mono ?_
   rintro e w4 ⟨v4,rfl,ho4,hb4⟩
   have HO4:=hide ho4
   have W4:=hide (zaa (W3.out.alloc W3.out.size (.cells #[.slice (some ⟨w1.heap.size,0,none⟩) 2 2,.slice A2 3 c2,.slice A3 (zai 0 s bs id).length c3] 36)) hb4 (Nat.le_refl _))
   have hz4:w.heap.size≤(w3.alloc (.cells #[.slice (some ⟨w1.heap.size,0,none⟩) 2 2,.slice A2 3 c2,.slice A3 (zai 0 s bs id).length c3] 36)).heap.size:=by simp;omega
   clear ho4 hb4
   go_wp2
   go_ret2
   exact ⟨_,rfl,by rw [HV.out];exact zaq HO4.out hz4,W4.out⟩
  ·have HV:Hid (zbS ⟨true,0,L,s,bs,id⟩=[[1,0],zaK L false,zai 0 s bs id].flatten):=hide (by simp [zbS,zd6])
   have HCL:Hid ((zaK L false).length=3):=hide (by unfold zaK;rw [zbg])
   go_enter Tryz.func150,Tryz.ntmps150
   go_wp2_with (with_reducible refine zaj rfl (.tmp 1) rfl w.heap.size rfl HN.out HL.out ?_)
   refine (zbb _ true 0 L s bs A n c 0 hi id HA.out hz.out HL.out).mono ?_
   rw [HR.out]
   rintro e w1 ⟨rfl,hb1⟩
   have B1:=hide (HN.out.over hb1)
   have k0:=(B1.out.cell 0).trans (zcY true 0 L s (.slice A n c) bs)
   have k1:=(B1.out.cell 1).trans (zcu true 0 L s (.slice A n c) bs)
   have k2:=(B1.out.cell 2).trans (zcL true 0 L s (.slice A n c) bs)
   have W1:=hide (zaa W0.out hb1 (Nat.le_refl _))
   have A1:=hide (HA.out.below (hb1.mono hz.out))
   have hgt:w.heap.size<w1.heap.size:=B1.out.lt
   clear hb1
   go_wp2_with fail
   refine (zbt _ L false HL1.out).mono ?_
   rintro e w2 ⟨v2,rfl,ho2,hb2⟩
   obtain ⟨A2,c2,rfl,_,_⟩:=zac ho2
   have hw1:hi≤w1.heap.size:=Nat.le_trans hh (Nat.le_of_lt hgt)
   have hw2:w1.heap.size+1≤w2.heap.size:=by have:=hb2.size;simpa using this
   have HH:=hide (zdG 1 0 ((Blk.new w1 5 #[.int .u8 1,.int .u8 0]).over hb2) rfl)
   have B2:=hide ((B1.out.alloc (.cells #[.int .u8 1,.int .u8 0] 5)).over hb2)
   have AI2:=hide ((A1.out.alloc hw1 (.cells #[.int .u8 1,.int .u8 0] 5)).below (hb2.mono (Nat.le_trans hw1 (by simp))))
   have W2:=hide (zaa (W1.out.alloc W1.out.size (.cells #[.int .u8 1,.int .u8 0] 5)) hb2 (Nat.le_refl _))
   have HO2:=hide ho2
   have hz2:hi≤w2.heap.size:=by omega
   clear hb2 ho2 k0 k1 k2
   go_wp2_with (with_reducible refine zaj rfl (.tmp 1) rfl w.heap.size rfl B2.out HL.out ?_)
   refine (zaN _ true 0 L s bs A n c hi id AI2.out hz2 HL.out HC.out HRA.out HID.out).mono ?_
   rintro e w3 ⟨v3,rfl,ho3,hb3⟩
   obtain ⟨A3,c3,rfl,_,_⟩:=zac ho3
   have hw3:=hb3.size
   have W3:=hide (zaa W2.out hb3 (Nat.le_refl _))
   have RW:=zfD (c1:=2) (c2:=c2) (c3:=c3) (((HH.out.below (hb3.mono hw2)).alloc (by omega) (.cells #[.slice (some ⟨w1.heap.size,0,none⟩) 2 2,.slice A2 3 c2,.slice A3 (zai 0 s bs id).length c3] 36)).more (Nat.le_refl _) (show w1.heap.size+1≤(w3.alloc (.cells #[.slice (some ⟨w1.heap.size,0,none⟩) 2 2,.slice A2 3 c2,.slice A3 (zai 0 s bs id).length c3] 36)).heap.size by simp;omega))
    (((At.own (zaw HO2.out hb3)).alloc (Nat.le_refl _) (.cells #[.slice (some ⟨w1.heap.size,0,none⟩) 2 2,.slice A2 3 c2,.slice A3 (zai 0 s bs id).length c3] 36)).more (Nat.zero_le _) (by simp)) (((At.own ho3).alloc (Nat.le_refl _) (.cells #[.slice (some ⟨w1.heap.size,0,none⟩) 2 2,.slice A2 3 c2,.slice A3 (zai 0 s bs id).length c3] 36)).more (Nat.zero_le _) (by simp))
   have hsum:[[1,0],zaK L false,zai 0 s bs id].flatten.length≤140737488351000:=by have h1:=HCL.out;have h2:=HLN.out;simp;omega
   have HRW:=hide RW
   have HSUM:=hide hsum
   clear ho3 hb3 RW hsum
   go_wp2_with fail
   refine (zaR _ w3.heap.size 36 _ [[1,0],zaK L false,zai 0 s bs id] 3 rfl (by decide) (Blk.new w3 _ _) HRW.out HSUM.out).mono ?_
   rintro e w4 ⟨v4,rfl,ho4,hb4⟩
   have HO4:=hide ho4
   have W4:=hide (zaa (W3.out.alloc W3.out.size (.cells #[.slice (some ⟨w1.heap.size,0,none⟩) 2 2,.slice A2 3 c2,.slice A3 (zai 0 s bs id).length c3] 36)) hb4 (Nat.le_refl _))
   have hz4:w.heap.size≤(w3.alloc (.cells #[.slice (some ⟨w1.heap.size,0,none⟩) 2 2,.slice A2 3 c2,.slice A3 (zai 0 s bs id).length c3] 36)).heap.size:=by simp;omega
   clear ho4 hb4
   go_wp2
   go_ret2
   exact ⟨_,rfl,by rw [HV.out];exact zaq HO4.out hz4,W4.out⟩
 ·cases lf
  ·have HV:Hid (zbS ⟨false,1,L,s,bs,id⟩=[[0,1],zaK L false,zai 1 s bs id].flatten):=hide (by simp [zbS,zd6])
   have HCL:Hid ((zaK L false).length=3):=hide (by unfold zaK;rw [zbg])
   go_enter Tryz.func150,Tryz.ntmps150
   go_wp2_with (with_reducible refine zaj rfl (.tmp 1) rfl w.heap.size rfl HN.out HL.out ?_)
   refine (zbb _ false 1 L s bs A n c 0 hi id HA.out hz.out HL.out).mono ?_
   rw [HR.out]
   rintro e w1 ⟨rfl,hb1⟩
   have B1:=hide (HN.out.over hb1)
   have k0:=(B1.out.cell 0).trans (zcY false 1 L s (.slice A n c) bs)
   have k1:=(B1.out.cell 1).trans (zcu false 1 L s (.slice A n c) bs)
   have k2:=(B1.out.cell 2).trans (zcL false 1 L s (.slice A n c) bs)
   have W1:=hide (zaa W0.out hb1 (Nat.le_refl _))
   have A1:=hide (HA.out.below (hb1.mono hz.out))
   have hgt:w.heap.size<w1.heap.size:=B1.out.lt
   clear hb1
   go_wp2_with fail
   refine (zbt _ L false HL1.out).mono ?_
   rintro e w2 ⟨v2,rfl,ho2,hb2⟩
   obtain ⟨A2,c2,rfl,_,_⟩:=zac ho2
   have hw1:hi≤w1.heap.size:=Nat.le_trans hh (Nat.le_of_lt hgt)
   have hw2:w1.heap.size+1≤w2.heap.size:=by have:=hb2.size;simpa using this
   have HH:=hide (zdG 0 1 ((Blk.new w1 5 #[.int .u8 0,.int .u8 1]).over hb2) rfl)
   have B2:=hide ((B1.out.alloc (.cells #[.int .u8 0,.int .u8 1] 5)).over hb2)
   have AI2:=hide ((A1.out.alloc hw1 (.cells #[.int .u8 0,.int .u8 1] 5)).below (hb2.mono (Nat.le_trans hw1 (by simp))))
   have W2:=hide (zaa (W1.out.alloc W1.out.size (.cells #[.int .u8 0,.int .u8 1] 5)) hb2 (Nat.le_refl _))
   have HO2:=hide ho2
   have hz2:hi≤w2.heap.size:=by omega
   clear hb2 ho2 k0 k1 k2
   go_wp2_with (with_reducible refine zaj rfl (.tmp 1) rfl w.heap.size rfl B2.out HL.out ?_)
   refine (zaN _ false 1 L s bs A n c hi id AI2.out hz2 HL.out HC.out HRA.out HID.out).mono ?_
   rintro e w3 ⟨v3,rfl,ho3,hb3⟩
   obtain ⟨A3,c3,rfl,_,_⟩:=zac ho3
   have hw3:=hb3.size
   have W3:=hide (zaa W2.out hb3 (Nat.le_refl _))
   have RW:=zfD (c1:=2) (c2:=c2) (c3:=c3) (((HH.out.below (hb3.mono hw2)).alloc (by omega) (.cells #[.slice (some ⟨w1.heap.size,0,none⟩) 2 2,.slice A2 3 c2,.slice A3 (zai 1 s bs id).length c3] 36)).more (Nat.le_refl _) (show w1.heap.size+1≤(w3.alloc (.cells #[.slice (some ⟨w1.heap.size,0,none⟩) 2 2,.slice A2 3 c2,.slice A3 (zai 1 s bs id).length c3] 36)).heap.size by simp;omega))
    (((At.own (zaw HO2.out hb3)).alloc (Nat.le_refl _) (.cells #[.slice (some ⟨w1.heap.size,0,none⟩) 2 2,.slice A2 3 c2,.slice A3 (zai 1 s bs id).length c3] 36)).more (Nat.zero_le _) (by simp)) (((At.own ho3).alloc (Nat.le_refl _) (.cells #[.slice (some ⟨w1.heap.size,0,none⟩) 2 2,.slice A2 3 c2,.slice A3 (zai 1 s bs id).length c3] 36)).more (Nat.zero_le _) (by simp))
   have hsum:[[0,1],zaK L false,zai 1 s bs id].flatten.length≤140737488351000:=by have h1:=HCL.out;have h2:=HLN.out;simp;omega
   have HRW:=hide RW
   have HSUM:=hide hsum
   clear ho3 hb3 RW hsum
   go_wp2_with fail
   refine (zaR _ w3.heap.size 36 _ [[0,1],zaK L false,zai 1 s bs id] 3 rfl (by decide) (Blk.new w3 _ _) HRW.out HSUM.out).mono ?_
   rintro e w4 ⟨v4,rfl,ho4,hb4⟩
   have HO4:=hide ho4
   have W4:=hide (zaa (W3.out.alloc W3.out.size (.cells #[.slice (some ⟨w1.heap.size,0,none⟩) 2 2,.slice A2 3 c2,.slice A3 (zai 1 s bs id).length c3] 36)) hb4 (Nat.le_refl _))
   have hz4:w.heap.size≤(w3.alloc (.cells #[.slice (some ⟨w1.heap.size,0,none⟩) 2 2,.slice A2 3 c2,.slice A3 (zai 1 s bs id).length c3] 36)).heap.size:=by simp;omega
   clear ho4 hb4
   go_wp2
   go_ret2
   exact ⟨_,rfl,by rw [HV.out];exact zaq HO4.out hz4,W4.out⟩
  ·have HV:Hid (zbS ⟨true,1,L,s,bs,id⟩=[[1,1],zaK L false,zai 1 s bs id].flatten):=hide (by simp [zbS,zd6])
   have HCL:Hid ((zaK L false).length=3):=hide (by unfold zaK;rw [zbg])
   go_enter Tryz.func150,Tryz.ntmps150
   go_wp2_with (with_reducible refine zaj rfl (.tmp 1) rfl w.heap.size rfl HN.out HL.out ?_)
   refine (zbb _ true 1 L s bs A n c 0 hi id HA.out hz.out HL.out).mono ?_
   rw [HR.out]
   rintro e w1 ⟨rfl,hb1⟩
   have B1:=hide (HN.out.over hb1)
   have k0:=(B1.out.cell 0).trans (zcY true 1 L s (.slice A n c) bs)
   have k1:=(B1.out.cell 1).trans (zcu true 1 L s (.slice A n c) bs)
   have k2:=(B1.out.cell 2).trans (zcL true 1 L s (.slice A n c) bs)
   have W1:=hide (zaa W0.out hb1 (Nat.le_refl _))
   have A1:=hide (HA.out.below (hb1.mono hz.out))
   have hgt:w.heap.size<w1.heap.size:=B1.out.lt
   clear hb1
   go_wp2_with fail
   refine (zbt _ L false HL1.out).mono ?_
   rintro e w2 ⟨v2,rfl,ho2,hb2⟩
   obtain ⟨A2,c2,rfl,_,_⟩:=zac ho2
   have hw1:hi≤w1.heap.size:=Nat.le_trans hh (Nat.le_of_lt hgt)
   have hw2:w1.heap.size+1≤w2.heap.size:=by have:=hb2.size;simpa using this
   have HH:=hide (zdG 1 1 ((Blk.new w1 5 #[.int .u8 1,.int .u8 1]).over hb2) rfl)
   have B2:=hide ((B1.out.alloc (.cells #[.int .u8 1,.int .u8 1] 5)).over hb2)
   have AI2:=hide ((A1.out.alloc hw1 (.cells #[.int .u8 1,.int .u8 1] 5)).below (hb2.mono (Nat.le_trans hw1 (by simp))))
   have W2:=hide (zaa (W1.out.alloc W1.out.size (.cells #[.int .u8 1,.int .u8 1] 5)) hb2 (Nat.le_refl _))
   have HO2:=hide ho2
   have hz2:hi≤w2.heap.size:=by omega
   clear hb2 ho2 k0 k1 k2
   go_wp2_with (with_reducible refine zaj rfl (.tmp 1) rfl w.heap.size rfl B2.out HL.out ?_)
   refine (zaN _ true 1 L s bs A n c hi id AI2.out hz2 HL.out HC.out HRA.out HID.out).mono ?_
   rintro e w3 ⟨v3,rfl,ho3,hb3⟩
   obtain ⟨A3,c3,rfl,_,_⟩:=zac ho3
   have hw3:=hb3.size
   have W3:=hide (zaa W2.out hb3 (Nat.le_refl _))
   have RW:=zfD (c1:=2) (c2:=c2) (c3:=c3) (((HH.out.below (hb3.mono hw2)).alloc (by omega) (.cells #[.slice (some ⟨w1.heap.size,0,none⟩) 2 2,.slice A2 3 c2,.slice A3 (zai 1 s bs id).length c3] 36)).more (Nat.le_refl _) (show w1.heap.size+1≤(w3.alloc (.cells #[.slice (some ⟨w1.heap.size,0,none⟩) 2 2,.slice A2 3 c2,.slice A3 (zai 1 s bs id).length c3] 36)).heap.size by simp;omega))
    (((At.own (zaw HO2.out hb3)).alloc (Nat.le_refl _) (.cells #[.slice (some ⟨w1.heap.size,0,none⟩) 2 2,.slice A2 3 c2,.slice A3 (zai 1 s bs id).length c3] 36)).more (Nat.zero_le _) (by simp)) (((At.own ho3).alloc (Nat.le_refl _) (.cells #[.slice (some ⟨w1.heap.size,0,none⟩) 2 2,.slice A2 3 c2,.slice A3 (zai 1 s bs id).length c3] 36)).more (Nat.zero_le _) (by simp))
   have hsum:[[1,1],zaK L false,zai 1 s bs id].flatten.length≤140737488351000:=by have h1:=HCL.out;have h2:=HLN.out;simp;omega
   have HRW:=hide RW
   have HSUM:=hide hsum
   clear ho3 hb3 RW hsum
   go_wp2_with fail
   refine (zaR _ w3.heap.size 36 _ [[1,1],zaK L false,zai 1 s bs id] 3 rfl (by decide) (Blk.new w3 _ _) HRW.out HSUM.out).mono ?_
   rintro e w4 ⟨v4,rfl,ho4,hb4⟩
   have HO4:=hide ho4
   have W4:=hide (zaa (W3.out.alloc W3.out.size (.cells #[.slice (some ⟨w1.heap.size,0,none⟩) 2 2,.slice A2 3 c2,.slice A3 (zai 1 s bs id).length c3] 36)) hb4 (Nat.le_refl _))
   have hz4:w.heap.size≤(w3.alloc (.cells #[.slice (some ⟨w1.heap.size,0,none⟩) 2 2,.slice A2 3 c2,.slice A3 (zai 1 s bs id).length c3] 36)).heap.size:=by simp;omega
   clear ho4 hb4
   go_wp2
   go_ret2
   exact ⟨_,rfl,by rw [HV.out];exact zaq HO4.out hz4,W4.out⟩
 ·cases lf
  ·have HV:Hid (zbS ⟨false,2,L,s,bs,id⟩=[[0,2],zaK L false,zai 2 s bs id].flatten):=hide (by simp [zbS,zd6])
   have HCL:Hid ((zaK L false).length=3):=hide (by unfold zaK;rw [zbg])
   go_enter Tryz.func150,Tryz.ntmps150
   go_wp2_with (with_reducible refine zaj rfl (.tmp 1) rfl w.heap.size rfl HN.out HL.out ?_)
   refine (zbb _ false 2 L s bs A n c 0 hi id HA.out hz.out HL.out).mono ?_
   rw [HR.out]
   rintro e w1 ⟨rfl,hb1⟩
   have B1:=hide (HN.out.over hb1)
   have k0:=(B1.out.cell 0).trans (zcY false 2 L s (.slice A n c) bs)
   have k1:=(B1.out.cell 1).trans (zcu false 2 L s (.slice A n c) bs)
   have k2:=(B1.out.cell 2).trans (zcL false 2 L s (.slice A n c) bs)
   have W1:=hide (zaa W0.out hb1 (Nat.le_refl _))
   have A1:=hide (HA.out.below (hb1.mono hz.out))
   have hgt:w.heap.size<w1.heap.size:=B1.out.lt
   clear hb1
   go_wp2_with fail
   refine (zbt _ L false HL1.out).mono ?_
   rintro e w2 ⟨v2,rfl,ho2,hb2⟩
   obtain ⟨A2,c2,rfl,_,_⟩:=zac ho2
   have hw1:hi≤w1.heap.size:=Nat.le_trans hh (Nat.le_of_lt hgt)
   have hw2:w1.heap.size+1≤w2.heap.size:=by have:=hb2.size;simpa using this
   have HH:=hide (zdG 0 2 ((Blk.new w1 5 #[.int .u8 0,.int .u8 2]).over hb2) rfl)
   have B2:=hide ((B1.out.alloc (.cells #[.int .u8 0,.int .u8 2] 5)).over hb2)
   have AI2:=hide ((A1.out.alloc hw1 (.cells #[.int .u8 0,.int .u8 2] 5)).below (hb2.mono (Nat.le_trans hw1 (by simp))))
   have W2:=hide (zaa (W1.out.alloc W1.out.size (.cells #[.int .u8 0,.int .u8 2] 5)) hb2 (Nat.le_refl _))
   have HO2:=hide ho2
   have hz2:hi≤w2.heap.size:=by omega
   clear hb2 ho2 k0 k1 k2
   go_wp2_with (with_reducible refine zaj rfl (.tmp 1) rfl w.heap.size rfl B2.out HL.out ?_)
   refine (zaN _ false 2 L s bs A n c hi id AI2.out hz2 HL.out HC.out HRA.out HID.out).mono ?_
   rintro e w3 ⟨v3,rfl,ho3,hb3⟩
   obtain ⟨A3,c3,rfl,_,_⟩:=zac ho3
   have hw3:=hb3.size
   have W3:=hide (zaa W2.out hb3 (Nat.le_refl _))
   have RW:=zfD (c1:=2) (c2:=c2) (c3:=c3) (((HH.out.below (hb3.mono hw2)).alloc (by omega) (.cells #[.slice (some ⟨w1.heap.size,0,none⟩) 2 2,.slice A2 3 c2,.slice A3 (zai 2 s bs id).length c3] 36)).more (Nat.le_refl _) (show w1.heap.size+1≤(w3.alloc (.cells #[.slice (some ⟨w1.heap.size,0,none⟩) 2 2,.slice A2 3 c2,.slice A3 (zai 2 s bs id).length c3] 36)).heap.size by simp;omega))
    (((At.own (zaw HO2.out hb3)).alloc (Nat.le_refl _) (.cells #[.slice (some ⟨w1.heap.size,0,none⟩) 2 2,.slice A2 3 c2,.slice A3 (zai 2 s bs id).length c3] 36)).more (Nat.zero_le _) (by simp)) (((At.own ho3).alloc (Nat.le_refl _) (.cells #[.slice (some ⟨w1.heap.size,0,none⟩) 2 2,.slice A2 3 c2,.slice A3 (zai 2 s bs id).length c3] 36)).more (Nat.zero_le _) (by simp))
   have hsum:[[0,2],zaK L false,zai 2 s bs id].flatten.length≤140737488351000:=by have h1:=HCL.out;have h2:=HLN.out;simp;omega
   have HRW:=hide RW
   have HSUM:=hide hsum
   clear ho3 hb3 RW hsum
   go_wp2_with fail
   refine (zaR _ w3.heap.size 36 _ [[0,2],zaK L false,zai 2 s bs id] 3 rfl (by decide) (Blk.new w3 _ _) HRW.out HSUM.out).mono ?_
   rintro e w4 ⟨v4,rfl,ho4,hb4⟩
   have HO4:=hide ho4
   have W4:=hide (zaa (W3.out.alloc W3.out.size (.cells #[.slice (some ⟨w1.heap.size,0,none⟩) 2 2,.slice A2 3 c2,.slice A3 (zai 2 s bs id).length c3] 36)) hb4 (Nat.le_refl _))
   have hz4:w.heap.size≤(w3.alloc (.cells #[.slice (some ⟨w1.heap.size,0,none⟩) 2 2,.slice A2 3 c2,.slice A3 (zai 2 s bs id).length c3] 36)).heap.size:=by simp;omega
   clear ho4 hb4
   go_wp2
   go_ret2
   exact ⟨_,rfl,by rw [HV.out];exact zaq HO4.out hz4,W4.out⟩
  ·have HV:Hid (zbS ⟨true,2,L,s,bs,id⟩=[[1,2],zaK L false,zai 2 s bs id].flatten):=hide (by simp [zbS,zd6])
   have HCL:Hid ((zaK L false).length=3):=hide (by unfold zaK;rw [zbg])
   go_enter Tryz.func150,Tryz.ntmps150
   go_wp2_with (with_reducible refine zaj rfl (.tmp 1) rfl w.heap.size rfl HN.out HL.out ?_)
   refine (zbb _ true 2 L s bs A n c 0 hi id HA.out hz.out HL.out).mono ?_
   rw [HR.out]
   rintro e w1 ⟨rfl,hb1⟩
   have B1:=hide (HN.out.over hb1)
   have k0:=(B1.out.cell 0).trans (zcY true 2 L s (.slice A n c) bs)
   have k1:=(B1.out.cell 1).trans (zcu true 2 L s (.slice A n c) bs)
   have k2:=(B1.out.cell 2).trans (zcL true 2 L s (.slice A n c) bs)
   have W1:=hide (zaa W0.out hb1 (Nat.le_refl _))
   have A1:=hide (HA.out.below (hb1.mono hz.out))
   have hgt:w.heap.size<w1.heap.size:=B1.out.lt
   clear hb1
   go_wp2_with fail
   refine (zbt _ L false HL1.out).mono ?_
   rintro e w2 ⟨v2,rfl,ho2,hb2⟩
   obtain ⟨A2,c2,rfl,_,_⟩:=zac ho2
   have hw1:hi≤w1.heap.size:=Nat.le_trans hh (Nat.le_of_lt hgt)
   have hw2:w1.heap.size+1≤w2.heap.size:=by have:=hb2.size;simpa using this
   have HH:=hide (zdG 1 2 ((Blk.new w1 5 #[.int .u8 1,.int .u8 2]).over hb2) rfl)
   have B2:=hide ((B1.out.alloc (.cells #[.int .u8 1,.int .u8 2] 5)).over hb2)
   have AI2:=hide ((A1.out.alloc hw1 (.cells #[.int .u8 1,.int .u8 2] 5)).below (hb2.mono (Nat.le_trans hw1 (by simp))))
   have W2:=hide (zaa (W1.out.alloc W1.out.size (.cells #[.int .u8 1,.int .u8 2] 5)) hb2 (Nat.le_refl _))
   have HO2:=hide ho2
   have hz2:hi≤w2.heap.size:=by omega
   clear hb2 ho2 k0 k1 k2
   go_wp2_with (with_reducible refine zaj rfl (.tmp 1) rfl w.heap.size rfl B2.out HL.out ?_)
   refine (zaN _ true 2 L s bs A n c hi id AI2.out hz2 HL.out HC.out HRA.out HID.out).mono ?_
   rintro e w3 ⟨v3,rfl,ho3,hb3⟩
   obtain ⟨A3,c3,rfl,_,_⟩:=zac ho3
   have hw3:=hb3.size
   have W3:=hide (zaa W2.out hb3 (Nat.le_refl _))
   have RW:=zfD (c1:=2) (c2:=c2) (c3:=c3) (((HH.out.below (hb3.mono hw2)).alloc (by omega) (.cells #[.slice (some ⟨w1.heap.size,0,none⟩) 2 2,.slice A2 3 c2,.slice A3 (zai 2 s bs id).length c3] 36)).more (Nat.le_refl _) (show w1.heap.size+1≤(w3.alloc (.cells #[.slice (some ⟨w1.heap.size,0,none⟩) 2 2,.slice A2 3 c2,.slice A3 (zai 2 s bs id).length c3] 36)).heap.size by simp;omega))
    (((At.own (zaw HO2.out hb3)).alloc (Nat.le_refl _) (.cells #[.slice (some ⟨w1.heap.size,0,none⟩) 2 2,.slice A2 3 c2,.slice A3 (zai 2 s bs id).length c3] 36)).more (Nat.zero_le _) (by simp)) (((At.own ho3).alloc (Nat.le_refl _) (.cells #[.slice (some ⟨w1.heap.size,0,none⟩) 2 2,.slice A2 3 c2,.slice A3 (zai 2 s bs id).length c3] 36)).more (Nat.zero_le _) (by simp))
   have hsum:[[1,2],zaK L false,zai 2 s bs id].flatten.length≤140737488351000:=by have h1:=HCL.out;have h2:=HLN.out;simp;omega
   have HRW:=hide RW
   have HSUM:=hide hsum
   clear ho3 hb3 RW hsum
   go_wp2_with fail
   refine (zaR _ w3.heap.size 36 _ [[1,2],zaK L false,zai 2 s bs id] 3 rfl (by decide) (Blk.new w3 _ _) HRW.out HSUM.out).mono ?_
   rintro e w4 ⟨v4,rfl,ho4,hb4⟩
   have HO4:=hide ho4
   have W4:=hide (zaa (W3.out.alloc W3.out.size (.cells #[.slice (some ⟨w1.heap.size,0,none⟩) 2 2,.slice A2 3 c2,.slice A3 (zai 2 s bs id).length c3] 36)) hb4 (Nat.le_refl _))
   have hz4:w.heap.size≤(w3.alloc (.cells #[.slice (some ⟨w1.heap.size,0,none⟩) 2 2,.slice A2 3 c2,.slice A3 (zai 2 s bs id).length c3] 36)).heap.size:=by simp;omega
   clear ho4 hb4
   go_wp2
   go_ret2
   exact ⟨_,rfl,by rw [HV.out];exact zaq HO4.out hz4,W4.out⟩
 ·cases lf
  ·have HV:Hid (zbS ⟨false,3,L,s,bs,id⟩=[[0,3],zaK L false,zai 3 s bs id].flatten):=hide (by simp [zbS,zd6])
   have HCL:Hid ((zaK L false).length=3):=hide (by unfold zaK;rw [zbg])
   go_enter Tryz.func150,Tryz.ntmps150
   go_wp2_with (with_reducible refine zaj rfl (.tmp 1) rfl w.heap.size rfl HN.out HL.out ?_)
   refine (zbb _ false 3 L s bs A n c 0 hi id HA.out hz.out HL.out).mono ?_
   rw [HR.out]
   rintro e w1 ⟨rfl,hb1⟩
   have B1:=hide (HN.out.over hb1)
   have k0:=(B1.out.cell 0).trans (zcY false 3 L s (.slice A n c) bs)
   have k1:=(B1.out.cell 1).trans (zcu false 3 L s (.slice A n c) bs)
   have k2:=(B1.out.cell 2).trans (zcL false 3 L s (.slice A n c) bs)
   have W1:=hide (zaa W0.out hb1 (Nat.le_refl _))
   have A1:=hide (HA.out.below (hb1.mono hz.out))
   have hgt:w.heap.size<w1.heap.size:=B1.out.lt
   clear hb1
   go_wp2_with fail
   refine (zbt _ L false HL1.out).mono ?_
   rintro e w2 ⟨v2,rfl,ho2,hb2⟩
   obtain ⟨A2,c2,rfl,_,_⟩:=zac ho2
   have hw1:hi≤w1.heap.size:=Nat.le_trans hh (Nat.le_of_lt hgt)
   have hw2:w1.heap.size+1≤w2.heap.size:=by have:=hb2.size;simpa using this
   have HH:=hide (zdG 0 3 ((Blk.new w1 5 #[.int .u8 0,.int .u8 3]).over hb2) rfl)
   have B2:=hide ((B1.out.alloc (.cells #[.int .u8 0,.int .u8 3] 5)).over hb2)
   have AI2:=hide ((A1.out.alloc hw1 (.cells #[.int .u8 0,.int .u8 3] 5)).below (hb2.mono (Nat.le_trans hw1 (by simp))))
   have W2:=hide (zaa (W1.out.alloc W1.out.size (.cells #[.int .u8 0,.int .u8 3] 5)) hb2 (Nat.le_refl _))
   have HO2:=hide ho2
   have hz2:hi≤w2.heap.size:=by omega
   clear hb2 ho2 k0 k1 k2
   go_wp2_with (with_reducible refine zaj rfl (.tmp 1) rfl w.heap.size rfl B2.out HL.out ?_)
   refine (zaN _ false 3 L s bs A n c hi id AI2.out hz2 HL.out HC.out HRA.out HID.out).mono ?_
   rintro e w3 ⟨v3,rfl,ho3,hb3⟩
   obtain ⟨A3,c3,rfl,_,_⟩:=zac ho3
   have hw3:=hb3.size
   have W3:=hide (zaa W2.out hb3 (Nat.le_refl _))
   have RW:=zfD (c1:=2) (c2:=c2) (c3:=c3) (((HH.out.below (hb3.mono hw2)).alloc (by omega) (.cells #[.slice (some ⟨w1.heap.size,0,none⟩) 2 2,.slice A2 3 c2,.slice A3 (zai 3 s bs id).length c3] 36)).more (Nat.le_refl _) (show w1.heap.size+1≤(w3.alloc (.cells #[.slice (some ⟨w1.heap.size,0,none⟩) 2 2,.slice A2 3 c2,.slice A3 (zai 3 s bs id).length c3] 36)).heap.size by simp;omega))
    (((At.own (zaw HO2.out hb3)).alloc (Nat.le_refl _) (.cells #[.slice (some ⟨w1.heap.size,0,none⟩) 2 2,.slice A2 3 c2,.slice A3 (zai 3 s bs id).length c3] 36)).more (Nat.zero_le _) (by simp)) (((At.own ho3).alloc (Nat.le_refl _) (.cells #[.slice (some ⟨w1.heap.size,0,none⟩) 2 2,.slice A2 3 c2,.slice A3 (zai 3 s bs id).length c3] 36)).more (Nat.zero_le _) (by simp))
   have hsum:[[0,3],zaK L false,zai 3 s bs id].flatten.length≤140737488351000:=by have h1:=HCL.out;have h2:=HLN.out;simp;omega
   have HRW:=hide RW
   have HSUM:=hide hsum
   clear ho3 hb3 RW hsum
   go_wp2_with fail
   refine (zaR _ w3.heap.size 36 _ [[0,3],zaK L false,zai 3 s bs id] 3 rfl (by decide) (Blk.new w3 _ _) HRW.out HSUM.out).mono ?_
   rintro e w4 ⟨v4,rfl,ho4,hb4⟩
   have HO4:=hide ho4
   have W4:=hide (zaa (W3.out.alloc W3.out.size (.cells #[.slice (some ⟨w1.heap.size,0,none⟩) 2 2,.slice A2 3 c2,.slice A3 (zai 3 s bs id).length c3] 36)) hb4 (Nat.le_refl _))
   have hz4:w.heap.size≤(w3.alloc (.cells #[.slice (some ⟨w1.heap.size,0,none⟩) 2 2,.slice A2 3 c2,.slice A3 (zai 3 s bs id).length c3] 36)).heap.size:=by simp;omega
   clear ho4 hb4
   go_wp2
   go_ret2
   exact ⟨_,rfl,by rw [HV.out];exact zaq HO4.out hz4,W4.out⟩
  ·have HV:Hid (zbS ⟨true,3,L,s,bs,id⟩=[[1,3],zaK L false,zai 3 s bs id].flatten):=hide (by simp [zbS,zd6])
   have HCL:Hid ((zaK L false).length=3):=hide (by unfold zaK;rw [zbg])
   go_enter Tryz.func150,Tryz.ntmps150
   go_wp2_with (with_reducible refine zaj rfl (.tmp 1) rfl w.heap.size rfl HN.out HL.out ?_)
   refine (zbb _ true 3 L s bs A n c 0 hi id HA.out hz.out HL.out).mono ?_
   rw [HR.out]
   rintro e w1 ⟨rfl,hb1⟩
   have B1:=hide (HN.out.over hb1)
   have k0:=(B1.out.cell 0).trans (zcY true 3 L s (.slice A n c) bs)
   have k1:=(B1.out.cell 1).trans (zcu true 3 L s (.slice A n c) bs)
   have k2:=(B1.out.cell 2).trans (zcL true 3 L s (.slice A n c) bs)
   have W1:=hide (zaa W0.out hb1 (Nat.le_refl _))
   have A1:=hide (HA.out.below (hb1.mono hz.out))
   have hgt:w.heap.size<w1.heap.size:=B1.out.lt
   clear hb1
   go_wp2_with fail
   refine (zbt _ L false HL1.out).mono ?_
   rintro e w2 ⟨v2,rfl,ho2,hb2⟩
   obtain ⟨A2,c2,rfl,_,_⟩:=zac ho2
   have hw1:hi≤w1.heap.size:=Nat.le_trans hh (Nat.le_of_lt hgt)
   have hw2:w1.heap.size+1≤w2.heap.size:=by have:=hb2.size;simpa using this
   have HH:=hide (zdG 1 3 ((Blk.new w1 5 #[.int .u8 1,.int .u8 3]).over hb2) rfl)
   have B2:=hide ((B1.out.alloc (.cells #[.int .u8 1,.int .u8 3] 5)).over hb2)
   have AI2:=hide ((A1.out.alloc hw1 (.cells #[.int .u8 1,.int .u8 3] 5)).below (hb2.mono (Nat.le_trans hw1 (by simp))))
   have W2:=hide (zaa (W1.out.alloc W1.out.size (.cells #[.int .u8 1,.int .u8 3] 5)) hb2 (Nat.le_refl _))
   have HO2:=hide ho2
   have hz2:hi≤w2.heap.size:=by omega
   clear hb2 ho2 k0 k1 k2
   go_wp2_with (with_reducible refine zaj rfl (.tmp 1) rfl w.heap.size rfl B2.out HL.out ?_)
   refine (zaN _ true 3 L s bs A n c hi id AI2.out hz2 HL.out HC.out HRA.out HID.out).mono ?_
   rintro e w3 ⟨v3,rfl,ho3,hb3⟩
   obtain ⟨A3,c3,rfl,_,_⟩:=zac ho3
   have hw3:=hb3.size
   have W3:=hide (zaa W2.out hb3 (Nat.le_refl _))
   have RW:=zfD (c1:=2) (c2:=c2) (c3:=c3) (((HH.out.below (hb3.mono hw2)).alloc (by omega) (.cells #[.slice (some ⟨w1.heap.size,0,none⟩) 2 2,.slice A2 3 c2,.slice A3 (zai 3 s bs id).length c3] 36)).more (Nat.le_refl _) (show w1.heap.size+1≤(w3.alloc (.cells #[.slice (some ⟨w1.heap.size,0,none⟩) 2 2,.slice A2 3 c2,.slice A3 (zai 3 s bs id).length c3] 36)).heap.size by simp;omega))
    (((At.own (zaw HO2.out hb3)).alloc (Nat.le_refl _) (.cells #[.slice (some ⟨w1.heap.size,0,none⟩) 2 2,.slice A2 3 c2,.slice A3 (zai 3 s bs id).length c3] 36)).more (Nat.zero_le _) (by simp)) (((At.own ho3).alloc (Nat.le_refl _) (.cells #[.slice (some ⟨w1.heap.size,0,none⟩) 2 2,.slice A2 3 c2,.slice A3 (zai 3 s bs id).length c3] 36)).more (Nat.zero_le _) (by simp))
   have hsum:[[1,3],zaK L false,zai 3 s bs id].flatten.length≤140737488351000:=by have h1:=HCL.out;have h2:=HLN.out;simp;omega
   have HRW:=hide RW
   have HSUM:=hide hsum
   clear ho3 hb3 RW hsum
   go_wp2_with fail
   refine (zaR _ w3.heap.size 36 _ [[1,3],zaK L false,zai 3 s bs id] 3 rfl (by decide) (Blk.new w3 _ _) HRW.out HSUM.out).mono ?_
   rintro e w4 ⟨v4,rfl,ho4,hb4⟩
   have HO4:=hide ho4
   have W4:=hide (zaa (W3.out.alloc W3.out.size (.cells #[.slice (some ⟨w1.heap.size,0,none⟩) 2 2,.slice A2 3 c2,.slice A3 (zai 3 s bs id).length c3] 36)) hb4 (Nat.le_refl _))
   have hz4:w.heap.size≤(w3.alloc (.cells #[.slice (some ⟨w1.heap.size,0,none⟩) 2 2,.slice A2 3 c2,.slice A3 (zai 3 s bs id).length c3] 36)).heap.size:=by simp;omega
   clear ho4 hb4
   go_wp2
   go_ret2
   exact ⟨_,rfl,by rw [HV.out];exact zaq HO4.out hz4,W4.out⟩
 ·cases lf
  ·have HV:Hid (zbS ⟨false,4,L,s,bs,id⟩=[[0,4],zaK L false,zai 4 s bs id].flatten):=hide (by simp [zbS,zd6])
   have HCL:Hid ((zaK L false).length=3):=hide (by unfold zaK;rw [zbg])
   go_enter Tryz.func150,Tryz.ntmps150
   go_wp2_with (with_reducible refine zaj rfl (.tmp 1) rfl w.heap.size rfl HN.out HL.out ?_)
   refine (zbb _ false 4 L s bs A n c 0 hi id HA.out hz.out HL.out).mono ?_
   rw [HR.out]
   rintro e w1 ⟨rfl,hb1⟩
   have B1:=hide (HN.out.over hb1)
   have k0:=(B1.out.cell 0).trans (zcY false 4 L s (.slice A n c) bs)
   have k1:=(B1.out.cell 1).trans (zcu false 4 L s (.slice A n c) bs)
   have k2:=(B1.out.cell 2).trans (zcL false 4 L s (.slice A n c) bs)
   have W1:=hide (zaa W0.out hb1 (Nat.le_refl _))
   have A1:=hide (HA.out.below (hb1.mono hz.out))
   have hgt:w.heap.size<w1.heap.size:=B1.out.lt
   clear hb1
   go_wp2_with fail
   refine (zbt _ L false HL1.out).mono ?_
   rintro e w2 ⟨v2,rfl,ho2,hb2⟩
   obtain ⟨A2,c2,rfl,_,_⟩:=zac ho2
   have hw1:hi≤w1.heap.size:=Nat.le_trans hh (Nat.le_of_lt hgt)
   have hw2:w1.heap.size+1≤w2.heap.size:=by have:=hb2.size;simpa using this
   have HH:=hide (zdG 0 4 ((Blk.new w1 5 #[.int .u8 0,.int .u8 4]).over hb2) rfl)
   have B2:=hide ((B1.out.alloc (.cells #[.int .u8 0,.int .u8 4] 5)).over hb2)
   have AI2:=hide ((A1.out.alloc hw1 (.cells #[.int .u8 0,.int .u8 4] 5)).below (hb2.mono (Nat.le_trans hw1 (by simp))))
   have W2:=hide (zaa (W1.out.alloc W1.out.size (.cells #[.int .u8 0,.int .u8 4] 5)) hb2 (Nat.le_refl _))
   have HO2:=hide ho2
   have hz2:hi≤w2.heap.size:=by omega
   clear hb2 ho2 k0 k1 k2
   go_wp2_with (with_reducible refine zaj rfl (.tmp 1) rfl w.heap.size rfl B2.out HL.out ?_)
   refine (zaN _ false 4 L s bs A n c hi id AI2.out hz2 HL.out HC.out HRA.out HID.out).mono ?_
   rintro e w3 ⟨v3,rfl,ho3,hb3⟩
   obtain ⟨A3,c3,rfl,_,_⟩:=zac ho3
   have hw3:=hb3.size
   have W3:=hide (zaa W2.out hb3 (Nat.le_refl _))
   have RW:=zfD (c1:=2) (c2:=c2) (c3:=c3) (((HH.out.below (hb3.mono hw2)).alloc (by omega) (.cells #[.slice (some ⟨w1.heap.size,0,none⟩) 2 2,.slice A2 3 c2,.slice A3 (zai 4 s bs id).length c3] 36)).more (Nat.le_refl _) (show w1.heap.size+1≤(w3.alloc (.cells #[.slice (some ⟨w1.heap.size,0,none⟩) 2 2,.slice A2 3 c2,.slice A3 (zai 4 s bs id).length c3] 36)).heap.size by simp;omega))
    (((At.own (zaw HO2.out hb3)).alloc (Nat.le_refl _) (.cells #[.slice (some ⟨w1.heap.size,0,none⟩) 2 2,.slice A2 3 c2,.slice A3 (zai 4 s bs id).length c3] 36)).more (Nat.zero_le _) (by simp)) (((At.own ho3).alloc (Nat.le_refl _) (.cells #[.slice (some ⟨w1.heap.size,0,none⟩) 2 2,.slice A2 3 c2,.slice A3 (zai 4 s bs id).length c3] 36)).more (Nat.zero_le _) (by simp))
   have hsum:[[0,4],zaK L false,zai 4 s bs id].flatten.length≤140737488351000:=by have h1:=HCL.out;have h2:=HLN.out;simp;omega
   have HRW:=hide RW
   have HSUM:=hide hsum
   clear ho3 hb3 RW hsum
   go_wp2_with fail
   refine (zaR _ w3.heap.size 36 _ [[0,4],zaK L false,zai 4 s bs id] 3 rfl (by decide) (Blk.new w3 _ _) HRW.out HSUM.out).mono ?_
   rintro e w4 ⟨v4,rfl,ho4,hb4⟩
   have HO4:=hide ho4
   have W4:=hide (zaa (W3.out.alloc W3.out.size (.cells #[.slice (some ⟨w1.heap.size,0,none⟩) 2 2,.slice A2 3 c2,.slice A3 (zai 4 s bs id).length c3] 36)) hb4 (Nat.le_refl _))
   have hz4:w.heap.size≤(w3.alloc (.cells #[.slice (some ⟨w1.heap.size,0,none⟩) 2 2,.slice A2 3 c2,.slice A3 (zai 4 s bs id).length c3] 36)).heap.size:=by simp;omega
   clear ho4 hb4
   go_wp2
   go_ret2
   exact ⟨_,rfl,by rw [HV.out];exact zaq HO4.out hz4,W4.out⟩
  ·have HV:Hid (zbS ⟨true,4,L,s,bs,id⟩=[[1,4],zaK L false,zai 4 s bs id].flatten):=hide (by simp [zbS,zd6])
   have HCL:Hid ((zaK L false).length=3):=hide (by unfold zaK;rw [zbg])
   go_enter Tryz.func150,Tryz.ntmps150
   go_wp2_with (with_reducible refine zaj rfl (.tmp 1) rfl w.heap.size rfl HN.out HL.out ?_)
   refine (zbb _ true 4 L s bs A n c 0 hi id HA.out hz.out HL.out).mono ?_
   rw [HR.out]
   rintro e w1 ⟨rfl,hb1⟩
   have B1:=hide (HN.out.over hb1)
   have k0:=(B1.out.cell 0).trans (zcY true 4 L s (.slice A n c) bs)
   have k1:=(B1.out.cell 1).trans (zcu true 4 L s (.slice A n c) bs)
   have k2:=(B1.out.cell 2).trans (zcL true 4 L s (.slice A n c) bs)
   have W1:=hide (zaa W0.out hb1 (Nat.le_refl _))
   have A1:=hide (HA.out.below (hb1.mono hz.out))
   have hgt:w.heap.size<w1.heap.size:=B1.out.lt
   clear hb1
   go_wp2_with fail
   refine (zbt _ L false HL1.out).mono ?_
   rintro e w2 ⟨v2,rfl,ho2,hb2⟩
   obtain ⟨A2,c2,rfl,_,_⟩:=zac ho2
   have hw1:hi≤w1.heap.size:=Nat.le_trans hh (Nat.le_of_lt hgt)
   have hw2:w1.heap.size+1≤w2.heap.size:=by have:=hb2.size;simpa using this
   have HH:=hide (zdG 1 4 ((Blk.new w1 5 #[.int .u8 1,.int .u8 4]).over hb2) rfl)
   have B2:=hide ((B1.out.alloc (.cells #[.int .u8 1,.int .u8 4] 5)).over hb2)
   have AI2:=hide ((A1.out.alloc hw1 (.cells #[.int .u8 1,.int .u8 4] 5)).below (hb2.mono (Nat.le_trans hw1 (by simp))))
   have W2:=hide (zaa (W1.out.alloc W1.out.size (.cells #[.int .u8 1,.int .u8 4] 5)) hb2 (Nat.le_refl _))
   have HO2:=hide ho2
   have hz2:hi≤w2.heap.size:=by omega
   clear hb2 ho2 k0 k1 k2
   go_wp2_with (with_reducible refine zaj rfl (.tmp 1) rfl w.heap.size rfl B2.out HL.out ?_)
   refine (zaN _ true 4 L s bs A n c hi id AI2.out hz2 HL.out HC.out HRA.out HID.out).mono ?_
   rintro e w3 ⟨v3,rfl,ho3,hb3⟩
   obtain ⟨A3,c3,rfl,_,_⟩:=zac ho3
   have hw3:=hb3.size
   have W3:=hide (zaa W2.out hb3 (Nat.le_refl _))
   have RW:=zfD (c1:=2) (c2:=c2) (c3:=c3) (((HH.out.below (hb3.mono hw2)).alloc (by omega) (.cells #[.slice (some ⟨w1.heap.size,0,none⟩) 2 2,.slice A2 3 c2,.slice A3 (zai 4 s bs id).length c3] 36)).more (Nat.le_refl _) (show w1.heap.size+1≤(w3.alloc (.cells #[.slice (some ⟨w1.heap.size,0,none⟩) 2 2,.slice A2 3 c2,.slice A3 (zai 4 s bs id).length c3] 36)).heap.size by simp;omega))
    (((At.own (zaw HO2.out hb3)).alloc (Nat.le_refl _) (.cells #[.slice (some ⟨w1.heap.size,0,none⟩) 2 2,.slice A2 3 c2,.slice A3 (zai 4 s bs id).length c3] 36)).more (Nat.zero_le _) (by simp)) (((At.own ho3).alloc (Nat.le_refl _) (.cells #[.slice (some ⟨w1.heap.size,0,none⟩) 2 2,.slice A2 3 c2,.slice A3 (zai 4 s bs id).length c3] 36)).more (Nat.zero_le _) (by simp))
   have hsum:[[1,4],zaK L false,zai 4 s bs id].flatten.length≤140737488351000:=by have h1:=HCL.out;have h2:=HLN.out;simp;omega
   have HRW:=hide RW
   have HSUM:=hide hsum
   clear ho3 hb3 RW hsum
   go_wp2_with fail
   refine (zaR _ w3.heap.size 36 _ [[1,4],zaK L false,zai 4 s bs id] 3 rfl (by decide) (Blk.new w3 _ _) HRW.out HSUM.out).mono ?_
   rintro e w4 ⟨v4,rfl,ho4,hb4⟩
   have HO4:=hide ho4
   have W4:=hide (zaa (W3.out.alloc W3.out.size (.cells #[.slice (some ⟨w1.heap.size,0,none⟩) 2 2,.slice A2 3 c2,.slice A3 (zai 4 s bs id).length c3] 36)) hb4 (Nat.le_refl _))
   have hz4:w.heap.size≤(w3.alloc (.cells #[.slice (some ⟨w1.heap.size,0,none⟩) 2 2,.slice A2 3 c2,.slice A3 (zai 4 s bs id).length c3] 36)).heap.size:=by simp;omega
   clear ho4 hb4
   go_wp2
   go_ret2
   exact ⟨_,rfl,by rw [HV.out];exact zaq HO4.out hz4,W4.out⟩
 ·cases lf
  ·have HV:Hid (zbS ⟨false,5,L,s,bs,id⟩=[[0,5],zaK L false,zai 5 s bs id].flatten):=hide (by simp [zbS,zd6])
   have HCL:Hid ((zaK L false).length=3):=hide (by unfold zaK;rw [zbg])
   go_enter Tryz.func150,Tryz.ntmps150
   go_wp2_with (with_reducible refine zaj rfl (.tmp 1) rfl w.heap.size rfl HN.out HL.out ?_)
   refine (zbb _ false 5 L s bs A n c 0 hi id HA.out hz.out HL.out).mono ?_
   rw [HR.out]
   rintro e w1 ⟨rfl,hb1⟩
   have B1:=hide (HN.out.over hb1)
   have k0:=(B1.out.cell 0).trans (zcY false 5 L s (.slice A n c) bs)
   have k1:=(B1.out.cell 1).trans (zcu false 5 L s (.slice A n c) bs)
   have k2:=(B1.out.cell 2).trans (zcL false 5 L s (.slice A n c) bs)
   have W1:=hide (zaa W0.out hb1 (Nat.le_refl _))
   have A1:=hide (HA.out.below (hb1.mono hz.out))
   have hgt:w.heap.size<w1.heap.size:=B1.out.lt
   clear hb1
   go_wp2_with fail
   refine (zbt _ L false HL1.out).mono ?_
   rintro e w2 ⟨v2,rfl,ho2,hb2⟩
   obtain ⟨A2,c2,rfl,_,_⟩:=zac ho2
   have hw1:hi≤w1.heap.size:=Nat.le_trans hh (Nat.le_of_lt hgt)
   have hw2:w1.heap.size+1≤w2.heap.size:=by have:=hb2.size;simpa using this
   have HH:=hide (zdG 0 5 ((Blk.new w1 5 #[.int .u8 0,.int .u8 5]).over hb2) rfl)
   have B2:=hide ((B1.out.alloc (.cells #[.int .u8 0,.int .u8 5] 5)).over hb2)
   have AI2:=hide ((A1.out.alloc hw1 (.cells #[.int .u8 0,.int .u8 5] 5)).below (hb2.mono (Nat.le_trans hw1 (by simp))))
   have W2:=hide (zaa (W1.out.alloc W1.out.size (.cells #[.int .u8 0,.int .u8 5] 5)) hb2 (Nat.le_refl _))
   have HO2:=hide ho2
   have hz2:hi≤w2.heap.size:=by omega
   clear hb2 ho2 k0 k1 k2
   go_wp2_with (with_reducible refine zaj rfl (.tmp 1) rfl w.heap.size rfl B2.out HL.out ?_)
   refine (zaN _ false 5 L s bs A n c hi id AI2.out hz2 HL.out HC.out HRA.out HID.out).mono ?_
   rintro e w3 ⟨v3,rfl,ho3,hb3⟩
   obtain ⟨A3,c3,rfl,_,_⟩:=zac ho3
   have hw3:=hb3.size
   have W3:=hide (zaa W2.out hb3 (Nat.le_refl _))
   have RW:=zfD (c1:=2) (c2:=c2) (c3:=c3) (((HH.out.below (hb3.mono hw2)).alloc (by omega) (.cells #[.slice (some ⟨w1.heap.size,0,none⟩) 2 2,.slice A2 3 c2,.slice A3 (zai 5 s bs id).length c3] 36)).more (Nat.le_refl _) (show w1.heap.size+1≤(w3.alloc (.cells #[.slice (some ⟨w1.heap.size,0,none⟩) 2 2,.slice A2 3 c2,.slice A3 (zai 5 s bs id).length c3] 36)).heap.size by simp;omega))
    (((At.own (zaw HO2.out hb3)).alloc (Nat.le_refl _) (.cells #[.slice (some ⟨w1.heap.size,0,none⟩) 2 2,.slice A2 3 c2,.slice A3 (zai 5 s bs id).length c3] 36)).more (Nat.zero_le _) (by simp)) (((At.own ho3).alloc (Nat.le_refl _) (.cells #[.slice (some ⟨w1.heap.size,0,none⟩) 2 2,.slice A2 3 c2,.slice A3 (zai 5 s bs id).length c3] 36)).more (Nat.zero_le _) (by simp))
   have hsum:[[0,5],zaK L false,zai 5 s bs id].flatten.length≤140737488351000:=by have h1:=HCL.out;have h2:=HLN.out;simp;omega
   have HRW:=hide RW
   have HSUM:=hide hsum
   clear ho3 hb3 RW hsum
   go_wp2_with fail
   refine (zaR _ w3.heap.size 36 _ [[0,5],zaK L false,zai 5 s bs id] 3 rfl (by decide) (Blk.new w3 _ _) HRW.out HSUM.out).mono ?_
   rintro e w4 ⟨v4,rfl,ho4,hb4⟩
   have HO4:=hide ho4
   have W4:=hide (zaa (W3.out.alloc W3.out.size (.cells #[.slice (some ⟨w1.heap.size,0,none⟩) 2 2,.slice A2 3 c2,.slice A3 (zai 5 s bs id).length c3] 36)) hb4 (Nat.le_refl _))
   have hz4:w.heap.size≤(w3.alloc (.cells #[.slice (some ⟨w1.heap.size,0,none⟩) 2 2,.slice A2 3 c2,.slice A3 (zai 5 s bs id).length c3] 36)).heap.size:=by simp;omega
   clear ho4 hb4
   go_wp2
   go_ret2
   exact ⟨_,rfl,by rw [HV.out];exact zaq HO4.out hz4,W4.out⟩
  ·have HV:Hid (zbS ⟨true,5,L,s,bs,id⟩=[[1,5],zaK L false,zai 5 s bs id].flatten):=hide (by simp [zbS,zd6])
   have HCL:Hid ((zaK L false).length=3):=hide (by unfold zaK;rw [zbg])
   go_enter Tryz.func150,Tryz.ntmps150
   go_wp2_with (with_reducible refine zaj rfl (.tmp 1) rfl w.heap.size rfl HN.out HL.out ?_)
   refine (zbb _ true 5 L s bs A n c 0 hi id HA.out hz.out HL.out).mono ?_
   rw [HR.out]
   rintro e w1 ⟨rfl,hb1⟩
   have B1:=hide (HN.out.over hb1)
   have k0:=(B1.out.cell 0).trans (zcY true 5 L s (.slice A n c) bs)
   have k1:=(B1.out.cell 1).trans (zcu true 5 L s (.slice A n c) bs)
   have k2:=(B1.out.cell 2).trans (zcL true 5 L s (.slice A n c) bs)
   have W1:=hide (zaa W0.out hb1 (Nat.le_refl _))
   have A1:=hide (HA.out.below (hb1.mono hz.out))
   have hgt:w.heap.size<w1.heap.size:=B1.out.lt
   clear hb1
   go_wp2_with fail
   refine (zbt _ L false HL1.out).mono ?_
   rintro e w2 ⟨v2,rfl,ho2,hb2⟩
   obtain ⟨A2,c2,rfl,_,_⟩:=zac ho2
   have hw1:hi≤w1.heap.size:=Nat.le_trans hh (Nat.le_of_lt hgt)
   have hw2:w1.heap.size+1≤w2.heap.size:=by have:=hb2.size;simpa using this
   have HH:=hide (zdG 1 5 ((Blk.new w1 5 #[.int .u8 1,.int .u8 5]).over hb2) rfl)
   have B2:=hide ((B1.out.alloc (.cells #[.int .u8 1,.int .u8 5] 5)).over hb2)
   have AI2:=hide ((A1.out.alloc hw1 (.cells #[.int .u8 1,.int .u8 5] 5)).below (hb2.mono (Nat.le_trans hw1 (by simp))))
   have W2:=hide (zaa (W1.out.alloc W1.out.size (.cells #[.int .u8 1,.int .u8 5] 5)) hb2 (Nat.le_refl _))
   have HO2:=hide ho2
   have hz2:hi≤w2.heap.size:=by omega
   clear hb2 ho2 k0 k1 k2
   go_wp2_with (with_reducible refine zaj rfl (.tmp 1) rfl w.heap.size rfl B2.out HL.out ?_)
   refine (zaN _ true 5 L s bs A n c hi id AI2.out hz2 HL.out HC.out HRA.out HID.out).mono ?_
   rintro e w3 ⟨v3,rfl,ho3,hb3⟩
   obtain ⟨A3,c3,rfl,_,_⟩:=zac ho3
   have hw3:=hb3.size
   have W3:=hide (zaa W2.out hb3 (Nat.le_refl _))
   have RW:=zfD (c1:=2) (c2:=c2) (c3:=c3) (((HH.out.below (hb3.mono hw2)).alloc (by omega) (.cells #[.slice (some ⟨w1.heap.size,0,none⟩) 2 2,.slice A2 3 c2,.slice A3 (zai 5 s bs id).length c3] 36)).more (Nat.le_refl _) (show w1.heap.size+1≤(w3.alloc (.cells #[.slice (some ⟨w1.heap.size,0,none⟩) 2 2,.slice A2 3 c2,.slice A3 (zai 5 s bs id).length c3] 36)).heap.size by simp;omega))
    (((At.own (zaw HO2.out hb3)).alloc (Nat.le_refl _) (.cells #[.slice (some ⟨w1.heap.size,0,none⟩) 2 2,.slice A2 3 c2,.slice A3 (zai 5 s bs id).length c3] 36)).more (Nat.zero_le _) (by simp)) (((At.own ho3).alloc (Nat.le_refl _) (.cells #[.slice (some ⟨w1.heap.size,0,none⟩) 2 2,.slice A2 3 c2,.slice A3 (zai 5 s bs id).length c3] 36)).more (Nat.zero_le _) (by simp))
   have hsum:[[1,5],zaK L false,zai 5 s bs id].flatten.length≤140737488351000:=by have h1:=HCL.out;have h2:=HLN.out;simp;omega
   have HRW:=hide RW
   have HSUM:=hide hsum
   clear ho3 hb3 RW hsum
   go_wp2_with fail
   refine (zaR _ w3.heap.size 36 _ [[1,5],zaK L false,zai 5 s bs id] 3 rfl (by decide) (Blk.new w3 _ _) HRW.out HSUM.out).mono ?_
   rintro e w4 ⟨v4,rfl,ho4,hb4⟩
   have HO4:=hide ho4
   have W4:=hide (zaa (W3.out.alloc W3.out.size (.cells #[.slice (some ⟨w1.heap.size,0,none⟩) 2 2,.slice A2 3 c2,.slice A3 (zai 5 s bs id).length c3] 36)) hb4 (Nat.le_refl _))
   have hz4:w.heap.size≤(w3.alloc (.cells #[.slice (some ⟨w1.heap.size,0,none⟩) 2 2,.slice A2 3 c2,.slice A3 (zai 5 s bs id).length c3] 36)).heap.size:=by simp;omega
   clear ho4 hb4
   go_wp2
   go_ret2
   exact ⟨_,rfl,by rw [HV.out];exact zaq HO4.out hz4,W4.out⟩
 ·cases lf
  ·have HV:Hid (zbS ⟨false,6,L,s,bs,id⟩=[[0,6],zaK L false,zai 6 s bs id].flatten):=hide (by simp [zbS,zd6])
   have HCL:Hid ((zaK L false).length=3):=hide (by unfold zaK;rw [zbg])
   go_enter Tryz.func150,Tryz.ntmps150
   go_wp2_with (with_reducible refine zaj rfl (.tmp 1) rfl w.heap.size rfl HN.out HL.out ?_)
   refine (zbb _ false 6 L s bs A n c 0 hi id HA.out hz.out HL.out).mono ?_
   rw [HR.out]
   rintro e w1 ⟨rfl,hb1⟩
   have B1:=hide (HN.out.over hb1)
   have k0:=(B1.out.cell 0).trans (zcY false 6 L s (.slice A n c) bs)
   have k1:=(B1.out.cell 1).trans (zcu false 6 L s (.slice A n c) bs)
   have k2:=(B1.out.cell 2).trans (zcL false 6 L s (.slice A n c) bs)
   have W1:=hide (zaa W0.out hb1 (Nat.le_refl _))
   have A1:=hide (HA.out.below (hb1.mono hz.out))
   have hgt:w.heap.size<w1.heap.size:=B1.out.lt
   clear hb1
   go_wp2_with fail
   refine (zbt _ L false HL1.out).mono ?_
   rintro e w2 ⟨v2,rfl,ho2,hb2⟩
   obtain ⟨A2,c2,rfl,_,_⟩:=zac ho2
   have hw1:hi≤w1.heap.size:=Nat.le_trans hh (Nat.le_of_lt hgt)
   have hw2:w1.heap.size+1≤w2.heap.size:=by have:=hb2.size;simpa using this
   have HH:=hide (zdG 0 6 ((Blk.new w1 5 #[.int .u8 0,.int .u8 6]).over hb2) rfl)
   have B2:=hide ((B1.out.alloc (.cells #[.int .u8 0,.int .u8 6] 5)).over hb2)
   have AI2:=hide ((A1.out.alloc hw1 (.cells #[.int .u8 0,.int .u8 6] 5)).below (hb2.mono (Nat.le_trans hw1 (by simp))))
   have W2:=hide (zaa (W1.out.alloc W1.out.size (.cells #[.int .u8 0,.int .u8 6] 5)) hb2 (Nat.le_refl _))
   have HO2:=hide ho2
   have hz2:hi≤w2.heap.size:=by omega
   clear hb2 ho2 k0 k1 k2
   go_wp2_with (with_reducible refine zaj rfl (.tmp 1) rfl w.heap.size rfl B2.out HL.out ?_)
   refine (zaN _ false 6 L s bs A n c hi id AI2.out hz2 HL.out HC.out HRA.out HID.out).mono ?_
   rintro e w3 ⟨v3,rfl,ho3,hb3⟩
   obtain ⟨A3,c3,rfl,_,_⟩:=zac ho3
   have hw3:=hb3.size
   have W3:=hide (zaa W2.out hb3 (Nat.le_refl _))
   have RW:=zfD (c1:=2) (c2:=c2) (c3:=c3) (((HH.out.below (hb3.mono hw2)).alloc (by omega) (.cells #[.slice (some ⟨w1.heap.size,0,none⟩) 2 2,.slice A2 3 c2,.slice A3 (zai 6 s bs id).length c3] 36)).more (Nat.le_refl _) (show w1.heap.size+1≤(w3.alloc (.cells #[.slice (some ⟨w1.heap.size,0,none⟩) 2 2,.slice A2 3 c2,.slice A3 (zai 6 s bs id).length c3] 36)).heap.size by simp;omega))
    (((At.own (zaw HO2.out hb3)).alloc (Nat.le_refl _) (.cells #[.slice (some ⟨w1.heap.size,0,none⟩) 2 2,.slice A2 3 c2,.slice A3 (zai 6 s bs id).length c3] 36)).more (Nat.zero_le _) (by simp)) (((At.own ho3).alloc (Nat.le_refl _) (.cells #[.slice (some ⟨w1.heap.size,0,none⟩) 2 2,.slice A2 3 c2,.slice A3 (zai 6 s bs id).length c3] 36)).more (Nat.zero_le _) (by simp))
   have hsum:[[0,6],zaK L false,zai 6 s bs id].flatten.length≤140737488351000:=by have h1:=HCL.out;have h2:=HLN.out;simp;omega
   have HRW:=hide RW
   have HSUM:=hide hsum
   clear ho3 hb3 RW hsum
   go_wp2_with fail
   refine (zaR _ w3.heap.size 36 _ [[0,6],zaK L false,zai 6 s bs id] 3 rfl (by decide) (Blk.new w3 _ _) HRW.out HSUM.out).mono ?_
   rintro e w4 ⟨v4,rfl,ho4,hb4⟩
   have HO4:=hide ho4
   have W4:=hide (zaa (W3.out.alloc W3.out.size (.cells #[.slice (some ⟨w1.heap.size,0,none⟩) 2 2,.slice A2 3 c2,.slice A3 (zai 6 s bs id).length c3] 36)) hb4 (Nat.le_refl _))
   have hz4:w.heap.size≤(w3.alloc (.cells #[.slice (some ⟨w1.heap.size,0,none⟩) 2 2,.slice A2 3 c2,.slice A3 (zai 6 s bs id).length c3] 36)).heap.size:=by simp;omega
   clear ho4 hb4
   go_wp2
   go_ret2
   exact ⟨_,rfl,by rw [HV.out];exact zaq HO4.out hz4,W4.out⟩
  ·have HV:Hid (zbS ⟨true,6,L,s,bs,id⟩=[[1,6],zaK L false,zai 6 s bs id].flatten):=hide (by simp [zbS,zd6])
   have HCL:Hid ((zaK L false).length=3):=hide (by unfold zaK;rw [zbg])
   go_enter Tryz.func150,Tryz.ntmps150
   go_wp2_with (with_reducible refine zaj rfl (.tmp 1) rfl w.heap.size rfl HN.out HL.out ?_)
   refine (zbb _ true 6 L s bs A n c 0 hi id HA.out hz.out HL.out).mono ?_
   rw [HR.out]
   rintro e w1 ⟨rfl,hb1⟩
   have B1:=hide (HN.out.over hb1)
   have k0:=(B1.out.cell 0).trans (zcY true 6 L s (.slice A n c) bs)
   have k1:=(B1.out.cell 1).trans (zcu true 6 L s (.slice A n c) bs)
   have k2:=(B1.out.cell 2).trans (zcL true 6 L s (.slice A n c) bs)
   have W1:=hide (zaa W0.out hb1 (Nat.le_refl _))
   have A1:=hide (HA.out.below (hb1.mono hz.out))
   have hgt:w.heap.size<w1.heap.size:=B1.out.lt
   clear hb1
   go_wp2_with fail
   refine (zbt _ L false HL1.out).mono ?_
   rintro e w2 ⟨v2,rfl,ho2,hb2⟩
   obtain ⟨A2,c2,rfl,_,_⟩:=zac ho2
   have hw1:hi≤w1.heap.size:=Nat.le_trans hh (Nat.le_of_lt hgt)
   have hw2:w1.heap.size+1≤w2.heap.size:=by have:=hb2.size;simpa using this
   have HH:=hide (zdG 1 6 ((Blk.new w1 5 #[.int .u8 1,.int .u8 6]).over hb2) rfl)
   have B2:=hide ((B1.out.alloc (.cells #[.int .u8 1,.int .u8 6] 5)).over hb2)
   have AI2:=hide ((A1.out.alloc hw1 (.cells #[.int .u8 1,.int .u8 6] 5)).below (hb2.mono (Nat.le_trans hw1 (by simp))))
   have W2:=hide (zaa (W1.out.alloc W1.out.size (.cells #[.int .u8 1,.int .u8 6] 5)) hb2 (Nat.le_refl _))
   have HO2:=hide ho2
   have hz2:hi≤w2.heap.size:=by omega
   clear hb2 ho2 k0 k1 k2
   go_wp2_with (with_reducible refine zaj rfl (.tmp 1) rfl w.heap.size rfl B2.out HL.out ?_)
   refine (zaN _ true 6 L s bs A n c hi id AI2.out hz2 HL.out HC.out HRA.out HID.out).mono ?_
   rintro e w3 ⟨v3,rfl,ho3,hb3⟩
   obtain ⟨A3,c3,rfl,_,_⟩:=zac ho3
   have hw3:=hb3.size
   have W3:=hide (zaa W2.out hb3 (Nat.le_refl _))
   have RW:=zfD (c1:=2) (c2:=c2) (c3:=c3) (((HH.out.below (hb3.mono hw2)).alloc (by omega) (.cells #[.slice (some ⟨w1.heap.size,0,none⟩) 2 2,.slice A2 3 c2,.slice A3 (zai 6 s bs id).length c3] 36)).more (Nat.le_refl _) (show w1.heap.size+1≤(w3.alloc (.cells #[.slice (some ⟨w1.heap.size,0,none⟩) 2 2,.slice A2 3 c2,.slice A3 (zai 6 s bs id).length c3] 36)).heap.size by simp;omega))
    (((At.own (zaw HO2.out hb3)).alloc (Nat.le_refl _) (.cells #[.slice (some ⟨w1.heap.size,0,none⟩) 2 2,.slice A2 3 c2,.slice A3 (zai 6 s bs id).length c3] 36)).more (Nat.zero_le _) (by simp)) (((At.own ho3).alloc (Nat.le_refl _) (.cells #[.slice (some ⟨w1.heap.size,0,none⟩) 2 2,.slice A2 3 c2,.slice A3 (zai 6 s bs id).length c3] 36)).more (Nat.zero_le _) (by simp))
   have hsum:[[1,6],zaK L false,zai 6 s bs id].flatten.length≤140737488351000:=by have h1:=HCL.out;have h2:=HLN.out;simp;omega
   have HRW:=hide RW
   have HSUM:=hide hsum
   clear ho3 hb3 RW hsum
   go_wp2_with fail
   refine (zaR _ w3.heap.size 36 _ [[1,6],zaK L false,zai 6 s bs id] 3 rfl (by decide) (Blk.new w3 _ _) HRW.out HSUM.out).mono ?_
   rintro e w4 ⟨v4,rfl,ho4,hb4⟩
   have HO4:=hide ho4
   have W4:=hide (zaa (W3.out.alloc W3.out.size (.cells #[.slice (some ⟨w1.heap.size,0,none⟩) 2 2,.slice A2 3 c2,.slice A3 (zai 6 s bs id).length c3] 36)) hb4 (Nat.le_refl _))
   have hz4:w.heap.size≤(w3.alloc (.cells #[.slice (some ⟨w1.heap.size,0,none⟩) 2 2,.slice A2 3 c2,.slice A3 (zai 6 s bs id).length c3] 36)).heap.size:=by simp;omega
   clear ho4 hb4
   go_wp2
   go_ret2
   exact ⟨_,rfl,by rw [HV.out];exact zaq HO4.out hz4,W4.out⟩
 ·cases lf
  ·have HV:Hid (zbS ⟨false,7,L,s,bs,id⟩=[[0,7],zaK L false,zai 7 s bs id].flatten):=hide (by simp [zbS,zd6])
   have HCL:Hid ((zaK L false).length=3):=hide (by unfold zaK;rw [zbg])
   go_enter Tryz.func150,Tryz.ntmps150
   go_wp2_with (with_reducible refine zaj rfl (.tmp 1) rfl w.heap.size rfl HN.out HL.out ?_)
   refine (zbb _ false 7 L s bs A n c 0 hi id HA.out hz.out HL.out).mono ?_
   rw [HR.out]
   rintro e w1 ⟨rfl,hb1⟩
   have B1:=hide (HN.out.over hb1)
   have k0:=(B1.out.cell 0).trans (zcY false 7 L s (.slice A n c) bs)
   have k1:=(B1.out.cell 1).trans (zcu false 7 L s (.slice A n c) bs)
   have k2:=(B1.out.cell 2).trans (zcL false 7 L s (.slice A n c) bs)
   have W1:=hide (zaa W0.out hb1 (Nat.le_refl _))
   have A1:=hide (HA.out.below (hb1.mono hz.out))
   have hgt:w.heap.size<w1.heap.size:=B1.out.lt
   clear hb1
   go_wp2_with fail
   refine (zbt _ L false HL1.out).mono ?_
   rintro e w2 ⟨v2,rfl,ho2,hb2⟩
   obtain ⟨A2,c2,rfl,_,_⟩:=zac ho2
   have hw1:hi≤w1.heap.size:=Nat.le_trans hh (Nat.le_of_lt hgt)
   have hw2:w1.heap.size+1≤w2.heap.size:=by have:=hb2.size;simpa using this
   have HH:=hide (zdG 0 7 ((Blk.new w1 5 #[.int .u8 0,.int .u8 7]).over hb2) rfl)
   have B2:=hide ((B1.out.alloc (.cells #[.int .u8 0,.int .u8 7] 5)).over hb2)
   have AI2:=hide ((A1.out.alloc hw1 (.cells #[.int .u8 0,.int .u8 7] 5)).below (hb2.mono (Nat.le_trans hw1 (by simp))))
   have W2:=hide (zaa (W1.out.alloc W1.out.size (.cells #[.int .u8 0,.int .u8 7] 5)) hb2 (Nat.le_refl _))
   have HO2:=hide ho2
   have hz2:hi≤w2.heap.size:=by omega
   clear hb2 ho2 k0 k1 k2
   go_wp2_with (with_reducible refine zaj rfl (.tmp 1) rfl w.heap.size rfl B2.out HL.out ?_)
   refine (zaN _ false 7 L s bs A n c hi id AI2.out hz2 HL.out HC.out HRA.out HID.out).mono ?_
   rintro e w3 ⟨v3,rfl,ho3,hb3⟩
   obtain ⟨A3,c3,rfl,_,_⟩:=zac ho3
   have hw3:=hb3.size
   have W3:=hide (zaa W2.out hb3 (Nat.le_refl _))
   have RW:=zfD (c1:=2) (c2:=c2) (c3:=c3) (((HH.out.below (hb3.mono hw2)).alloc (by omega) (.cells #[.slice (some ⟨w1.heap.size,0,none⟩) 2 2,.slice A2 3 c2,.slice A3 (zai 7 s bs id).length c3] 36)).more (Nat.le_refl _) (show w1.heap.size+1≤(w3.alloc (.cells #[.slice (some ⟨w1.heap.size,0,none⟩) 2 2,.slice A2 3 c2,.slice A3 (zai 7 s bs id).length c3] 36)).heap.size by simp;omega))
    (((At.own (zaw HO2.out hb3)).alloc (Nat.le_refl _) (.cells #[.slice (some ⟨w1.heap.size,0,none⟩) 2 2,.slice A2 3 c2,.slice A3 (zai 7 s bs id).length c3] 36)).more (Nat.zero_le _) (by simp)) (((At.own ho3).alloc (Nat.le_refl _) (.cells #[.slice (some ⟨w1.heap.size,0,none⟩) 2 2,.slice A2 3 c2,.slice A3 (zai 7 s bs id).length c3] 36)).more (Nat.zero_le _) (by simp))
   have hsum:[[0,7],zaK L false,zai 7 s bs id].flatten.length≤140737488351000:=by have h1:=HCL.out;have h2:=HLN.out;simp;omega
   have HRW:=hide RW
   have HSUM:=hide hsum
   clear ho3 hb3 RW hsum
   go_wp2_with fail
   refine (zaR _ w3.heap.size 36 _ [[0,7],zaK L false,zai 7 s bs id] 3 rfl (by decide) (Blk.new w3 _ _) HRW.out HSUM.out).mono ?_
   rintro e w4 ⟨v4,rfl,ho4,hb4⟩
   have HO4:=hide ho4
   have W4:=hide (zaa (W3.out.alloc W3.out.size (.cells #[.slice (some ⟨w1.heap.size,0,none⟩) 2 2,.slice A2 3 c2,.slice A3 (zai 7 s bs id).length c3] 36)) hb4 (Nat.le_refl _))
   have hz4:w.heap.size≤(w3.alloc (.cells #[.slice (some ⟨w1.heap.size,0,none⟩) 2 2,.slice A2 3 c2,.slice A3 (zai 7 s bs id).length c3] 36)).heap.size:=by simp;omega
   clear ho4 hb4
   go_wp2
   go_ret2
   exact ⟨_,rfl,by rw [HV.out];exact zaq HO4.out hz4,W4.out⟩
  ·have HV:Hid (zbS ⟨true,7,L,s,bs,id⟩=[[1,7],zaK L false,zai 7 s bs id].flatten):=hide (by simp [zbS,zd6])
   have HCL:Hid ((zaK L false).length=3):=hide (by unfold zaK;rw [zbg])
   go_enter Tryz.func150,Tryz.ntmps150
   go_wp2_with (with_reducible refine zaj rfl (.tmp 1) rfl w.heap.size rfl HN.out HL.out ?_)
   refine (zbb _ true 7 L s bs A n c 0 hi id HA.out hz.out HL.out).mono ?_
   rw [HR.out]
   rintro e w1 ⟨rfl,hb1⟩
   have B1:=hide (HN.out.over hb1)
   have k0:=(B1.out.cell 0).trans (zcY true 7 L s (.slice A n c) bs)
   have k1:=(B1.out.cell 1).trans (zcu true 7 L s (.slice A n c) bs)
   have k2:=(B1.out.cell 2).trans (zcL true 7 L s (.slice A n c) bs)
   have W1:=hide (zaa W0.out hb1 (Nat.le_refl _))
   have A1:=hide (HA.out.below (hb1.mono hz.out))
   have hgt:w.heap.size<w1.heap.size:=B1.out.lt
   clear hb1
   go_wp2_with fail
   refine (zbt _ L false HL1.out).mono ?_
   rintro e w2 ⟨v2,rfl,ho2,hb2⟩
   obtain ⟨A2,c2,rfl,_,_⟩:=zac ho2
   have hw1:hi≤w1.heap.size:=Nat.le_trans hh (Nat.le_of_lt hgt)
   have hw2:w1.heap.size+1≤w2.heap.size:=by have:=hb2.size;simpa using this
   have HH:=hide (zdG 1 7 ((Blk.new w1 5 #[.int .u8 1,.int .u8 7]).over hb2) rfl)
   have B2:=hide ((B1.out.alloc (.cells #[.int .u8 1,.int .u8 7] 5)).over hb2)
   have AI2:=hide ((A1.out.alloc hw1 (.cells #[.int .u8 1,.int .u8 7] 5)).below (hb2.mono (Nat.le_trans hw1 (by simp))))
   have W2:=hide (zaa (W1.out.alloc W1.out.size (.cells #[.int .u8 1,.int .u8 7] 5)) hb2 (Nat.le_refl _))
   have HO2:=hide ho2
   have hz2:hi≤w2.heap.size:=by omega
   clear hb2 ho2 k0 k1 k2
   go_wp2_with (with_reducible refine zaj rfl (.tmp 1) rfl w.heap.size rfl B2.out HL.out ?_)
   refine (zaN _ true 7 L s bs A n c hi id AI2.out hz2 HL.out HC.out HRA.out HID.out).mono ?_
   rintro e w3 ⟨v3,rfl,ho3,hb3⟩
   obtain ⟨A3,c3,rfl,_,_⟩:=zac ho3
   have hw3:=hb3.size
   have W3:=hide (zaa W2.out hb3 (Nat.le_refl _))
   have RW:=zfD (c1:=2) (c2:=c2) (c3:=c3) (((HH.out.below (hb3.mono hw2)).alloc (by omega) (.cells #[.slice (some ⟨w1.heap.size,0,none⟩) 2 2,.slice A2 3 c2,.slice A3 (zai 7 s bs id).length c3] 36)).more (Nat.le_refl _) (show w1.heap.size+1≤(w3.alloc (.cells #[.slice (some ⟨w1.heap.size,0,none⟩) 2 2,.slice A2 3 c2,.slice A3 (zai 7 s bs id).length c3] 36)).heap.size by simp;omega))
    (((At.own (zaw HO2.out hb3)).alloc (Nat.le_refl _) (.cells #[.slice (some ⟨w1.heap.size,0,none⟩) 2 2,.slice A2 3 c2,.slice A3 (zai 7 s bs id).length c3] 36)).more (Nat.zero_le _) (by simp)) (((At.own ho3).alloc (Nat.le_refl _) (.cells #[.slice (some ⟨w1.heap.size,0,none⟩) 2 2,.slice A2 3 c2,.slice A3 (zai 7 s bs id).length c3] 36)).more (Nat.zero_le _) (by simp))
   have hsum:[[1,7],zaK L false,zai 7 s bs id].flatten.length≤140737488351000:=by have h1:=HCL.out;have h2:=HLN.out;simp;omega
   have HRW:=hide RW
   have HSUM:=hide hsum
   clear ho3 hb3 RW hsum
   go_wp2_with fail
   refine (zaR _ w3.heap.size 36 _ [[1,7],zaK L false,zai 7 s bs id] 3 rfl (by decide) (Blk.new w3 _ _) HRW.out HSUM.out).mono ?_
   rintro e w4 ⟨v4,rfl,ho4,hb4⟩
   have HO4:=hide ho4
   have W4:=hide (zaa (W3.out.alloc W3.out.size (.cells #[.slice (some ⟨w1.heap.size,0,none⟩) 2 2,.slice A2 3 c2,.slice A3 (zai 7 s bs id).length c3] 36)) hb4 (Nat.le_refl _))
   have hz4:w.heap.size≤(w3.alloc (.cells #[.slice (some ⟨w1.heap.size,0,none⟩) 2 2,.slice A2 3 c2,.slice A3 (zai 7 s bs id).length c3] 36)).heap.size:=by simp;omega
   clear ho4 hb4
   go_wp2
   go_ret2
   exact ⟨_,rfl,by rw [HV.out];exact zaq HO4.out hz4,W4.out⟩
end
end Go.Proofs.YtblnkbfbhlhgkaaGreatDoor
