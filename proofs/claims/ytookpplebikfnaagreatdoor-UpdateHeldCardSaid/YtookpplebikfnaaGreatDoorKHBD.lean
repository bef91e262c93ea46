/-
  The value of a table that is right: numberOf, aheadOf, nextBytes, value of package update, in whatever memory. The one condition beyond sizes that fit memory: the program's tables hold what its text lays.
  How a table is read: sizeOf, family, next, routes, readTable of package update, in whatever memory. The one condition beyond sizes that fit memory: the program's table holds what its text lays.
-/
import Derived.Test.YtookpplebikfnaaGreatDoorKHBC
set_option linter.unusedVariables false
set_option linter.unusedSimpArgs false
namespace Go.Proofs.YtookpplebikfnaaGreatDoor
section
set_option maxRecDepth 20000
open Go.RowKit
theorem zsT (w:World) (a:Nat) (t:TypeId):At (w.alloc (.cells (madeCells #[.int .u8 0] a) t)) w.heap.size (w.heap.size+1) (some ⟨w.heap.size,0,none⟩) a (List.replicate a 0) :=
 ⟨by simp,fun _=>⟨_,0,rfl,Nat.le_refl _,by omega,fun j u hu=>by
  have hb:=(Blk.new w t (madeCells #[.int .u8 0] a)).cell j
  rw [Nat.zero_add,hb,← Array.getElem?_toList,toList_madeCells_one]
  obtain ⟨hj,rfl⟩:=List.getElem?_eq_some_iff.1 hu
  rw [List.length_replicate] at hj
  rw [List.getElem?_replicate,if_pos hj]
  simp [bv]⟩⟩
theorem zuN (w:World) (V1 V2 V3:Int) (t:TypeId) (a b c:UInt8) (h1:V1=(a.toNat:Int)) (h2:V2=(b.toNat:Int)) (h3:V3=(c.toNat:Int)) :
  At (w.alloc (.cells #[.int .u8 V1,.int .u8 V2,.int .u8 V3] t)) w.heap.size (w.heap.size+1) (some ⟨w.heap.size,0,none⟩) 3 [a,b,c]:=by
 subst h1 h2 h3
 refine ⟨rfl,fun _=>⟨_,0,rfl,Nat.le_refl _,by omega,fun j u hu=>?_⟩⟩
 have hb:=(Blk.new w t #[.int .u8 (a.toNat:Int),.int .u8 (b.toNat:Int),.int .u8 (c.toNat:Int)]).cell j
 rw [Nat.zero_add,hb]
 match j,hu with
 | 0,hu=>simp at hu;subst hu;rfl
 | 1,hu=>simp at hu;subst hu;rfl
 | 2,hu=>simp at hu;subst hu;rfl
theorem zjL (w:World) (f:Int):Calls Tryz.prog 118 #[.int .i64 f] w fun e w'=>e = .returned (.int .i64 ((ahT f).length:Nat))∧w=w':=by
 unfold ahT
 by_cases hf:f=128
 ·rw [if_pos hf]
  go_enter Tryz.func118,Tryz.ntmps118
  go_wp2
  go_ret
  exact ⟨rfl,rfl⟩
 ·rw [if_neg hf]
  go_enter Tryz.func118,Tryz.ntmps118
  go_wp2
  go_ret
  exact ⟨rfl,rfl⟩
theorem zmz (w:World) (s:Int) (h:s=4∨s=16):Calls Tryz.prog 75 #[.int .i64 s] w fun e w'=>e = .returned (.int .u8 ((numT s).toNat:Nat))∧w=w':=by
 have:=ziW w s
 rcases h with rfl | rfl <;> exact this
set_option maxHeartbeats 1000000 in
theorem zrH (w:World) (lo hi:Nat) (x:TbP) (h:mTb w lo hi x) (hw:wTb x) (hh:hi≤w.heap.size) (a s:Nat) (ha:(ahT x.f).length=a) (ha8:a≤8) (hs:x.ns=(s:Int)) (hs16:s≤16) (hr:zaA x.ns x.nb=true) :
  Calls Tryz.prog 76 #[.agg (tbC x)] w fun e w'=>∃ v,e = .returned v∧w'.ownsRow w.heap.size 5 1 v (zgy x.tb).length (bvs (zgy x.tb))∧Below w.heap.size w w':=by
 obtain ⟨i0,hi0,hz0,hz1,hz2⟩:=info_parts zbz
 have S0:=hide (TbS.start h hw hh)
 have c1:=S0.out.c1
 have HA:=hide ha
 have HS:=hide hs
 have HRA:=hide hr
 have HOB:=hide (zcZ hw)
 have HL:=hide (zdi hw.nb hr)
 have HAT:Hid (ahT x.f=List.replicate a 0):=hide (by
  rw [← ha];unfold ahT;split <;> rfl)
 clear h hw ha hs hr
 go_enter Tryz.func76,Tryz.ntmps76
 go_wp2_with fail
 refine (zjL _ x.f).mono ?_
 rw [HA.out]
 rintro e w1 ⟨rfl,rfl⟩
 go_wp2_with (refine zbX rfl (.tmp 7) (.tmp 7) 36 rfl 5 i0 Tryz.underlying36 hi0 hz0 hz1 hz2 a a _ rfl rfl rfl (Nat.le_refl _) (by omega) ?_;refine Hid.out ?_)
 refine hide ?_
 have S2:=hide (S0.out.new (.cells (madeCells #[.int .u8 0] a) 5))
 have M2:=hide (zsT (w.alloc (.cells (tbC x) 53)) a 5)
 have k2:=S2.out.c2
 rw [HS.out] at k2
 have e1:(w.alloc (.cells (tbC x) 53)).heap.size=w.heap.size+1:=by simp
 rw [e1] at M2
 generalize (w.alloc (.cells (tbC x) 53)).alloc (.cells (madeCells #[.int .u8 0] a) 5)=w2 at *
 have M2z:Hid (w.heap.size+1<w2.heap.size∨a=0):=hide (by
  rcases Nat.eq_zero_or_pos a with h0 | h0
  ·exact .inr h0
  ·obtain ⟨b,o,e,_,_,hc⟩:=M2.out.2 h0
   injection e with e;injection e with e _
   have h1:=World.block_lt_of_cell? _ _ (hc 0 _ (by rw [List.getElem?_replicate,if_pos h0]))
   exact .inl (by rw [e];exact h1))
 have S3:=hide (S2.out.new (.cells #[.int .u8 ((a:Int)+(s:Int))] 5))
 have M3:=hide ((M2.out.lt.alloc (Nat.le_refl _) (.cells #[.int .u8 ((a:Int)+(s:Int))] 5)))
 have O3:=hide (zoy w2 ((a:Int)+(s:Int)) 5 (UInt8.ofNat (a+s)) (by simp;omega))
 have hz3:(w2.alloc (.cells #[.int .u8 ((a:Int)+(s:Int))] 5)).heap.size=w2.heap.size+1:=by simp
 have RG3:=hide S3.out.rng
 clear S0 c1 e1 S2
 go_wp2_with ((with_reducible refine zam ?_ (zcR (.tmp 19) rfl w.heap.size 0 rfl RG3.out HOB.out) ?_);· rfl)
 refine (zc8 _ x.ns x.nb HOB.out).mono ?_
 rintro e w4 ⟨v4,rfl,ho4,hb4⟩
 obtain ⟨A4,c4,rfl,_,_⟩:=zac ho4
 have S4:=hide (S3.out.on hb4)
 have P1:=hide ((O3.out.below (hb4.mono (by omega))).more (lo':=0) (hi':=w4.heap.size) (Nat.zero_le _) (by have:=hb4.size;omega))
 have P2:=hide ((M3.out.below (hb4.mono (by omega))).more (lo':=0) (hi':=w4.heap.size) (Nat.zero_le _) (by have:=hb4.size;omega))
 have P3:=hide ((At.own ho4).more (lo':=0) (hi':=w4.heap.size) (Nat.zero_le _) (Nat.le_refl _))
 have Z4:=hide (zoy w4 0 5 0 rfl)
 have B5:Hid (Below w4.heap.size w4 (w4.alloc (.cells #[.int .u8 0] 5))):=hide ((Below.refl _ _).alloc (Nat.le_refl _) _)
 have hz5:(w4.alloc (.cells #[.int .u8 0] 5)).heap.size=w4.heap.size+1:=by simp
 have R5:=hide (zqV (c1:=1) (c2:=a) (c3:=c4) (c4:=1) ((P1.out.below B5.out).more (hi':=w4.heap.size+1) (Nat.le_refl _) (by omega)) ((P2.out.below B5.out).more (hi':=w4.heap.size+1) (Nat.le_refl _) (by omega)) ((P3.out.below B5.out).more (hi':=w4.heap.size+1) (Nat.le_refl _) (by omega)) (Z4.out.more (lo':=0) (hi':=w4.heap.size+1) (Nat.zero_le _) (Nat.le_refl _)))
 clear S3 M2 M3 O3 RG3 hz3 ho4 hb4 P1 P2 P3 Z4
 have NB:=Blk.new (w4.alloc (.cells #[.int .u8 0] 5)) 36 #[.slice (some ⟨w2.heap.size,0,none⟩) 1 1,.slice (some ⟨w.heap.size+1,0,none⟩) a a,.slice A4 (zat x.ns x.nb).length c4,.slice (some ⟨w4.heap.size,0,none⟩) 1 1]
 rw [hz5] at NB
 have HNB:=hide NB
 have HFL:Hid (([[UInt8.ofNat (a+s)],List.replicate a 0,zat x.ns x.nb,[0]]:List (List UInt8)).flatten=zgy x.tb):=hide (by
  have e2:x.tb.ns.toNat=s:=by show x.ns.toNat=s;rw [HS.out];rfl
  unfold zgy
  show _=UInt8.ofNat ((ahT x.f).length+x.tb.ns.toNat)::(ahT x.f++(zat x.ns x.nb++[0]))
  rw [HA.out,e2,HAT.out]
  simp)
 have HSUM:Hid (([[UInt8.ofNat (a+s)],List.replicate a 0,zat x.ns x.nb,[0]]:List (List UInt8)).flatten.length≤140737488351000):=hide (by
  have h1:=HL.out
  rw [HS.out] at h1
  have h2:(zat x.ns x.nb).length=s:=by rw [HS.out];exact h1
  simp [h2]
  omega)
 have B6:=hide (((S4.out.bl.alloc S4.out.bl.size (.cells #[.int .u8 0] 5)).alloc (by rw [hz5];have:=S4.out.bl.size;omega) (.cells #[.slice (some ⟨w2.heap.size,0,none⟩) 1 1,.slice (some ⟨w.heap.size+1,0,none⟩) a a,.slice A4 (zat x.ns x.nb).length c4,.slice (some ⟨w4.heap.size,0,none⟩) 1 1] 36)))
 clear NB S4
 go_wp2_with fail
 refine (zcN _ (w4.heap.size+1) 36 _ [[UInt8.ofNat (a+s)],List.replicate a 0,zat x.ns x.nb,[0]] 4 rfl (by decide) HNB.out (R5.out.below ((Below.refl _ _).alloc (by rw [hz5];exact Nat.le_refl _) _) |>.wide (by simp)) HSUM.out).mono ?_
 rw [HFL.out]
 rintro e w7 ⟨v7,rfl,ho7,hb7⟩
 go_wp2
 go_ret
 exact ⟨v7,rfl,zav ho7 B6.out.size,zaa B6.out hb7 (Nat.le_refl _)⟩
structure TgS (w z:World) (lo hi:Nat) (x:TbP):Prop where
 s:TbS w z lo hi x
 n:zaM z
section
variable {w y z:World} {lo hi:Nat} {x:TbP}
theorem TgS.on (h:TgS w y lo hi x) (hb:Below y.heap.size y z):TgS w z lo hi x:=⟨h.s.on hb,h.n.below hb⟩
theorem TgS.drew (h:TgS w y lo hi x):TgS w y.drew lo hi x:=h.on (zal (Below.refl _ _))
theorem TgS.new (h:TgS w y lo hi x) (ob:Obj):TgS w (y.alloc ob) lo hi x:=h.on ((Below.refl _ _).alloc (Nat.le_refl _) ob)
theorem TgS.here (h:TgS w y lo hi x):hi≤y.heap.size:=Nat.le_trans h.s.hh h.s.bl.size
end
theorem zo4 {l:List Mr} {n:Nat} (hw:∀ m∈l,m.W) (hn:n≤1260000000000) (hl:l.length=n):(rowO l).length≤138600000000000:=by
 cases h:zjk l
 ·unfold rowO;rw [h];simp
 ·rw [(zkq h).1]
  have h1:=zg0 hw (fun m hm=>by unfold zjk at h;rw [List.all_eq_true] at h;exact h m hm)
  omega
theorem zmJ {l:List Ur} {n:Nat} (hw:∀ m∈l,m.W) (hn:n≤3000000000000) (hl:l.length=n):(zew l).length≤84000000000000:=by
 cases h:zfI l
 ·unfold zew;rw [h];simp
 ·rw [(ziz h).1]
  have h1:=zgZ hw (fun m hm=>by unfold zfI at h;rw [List.all_eq_true] at h;exact h m hm)
  omega
theorem zlE {t:Tb} (h:zdy t=true):t.us=[]∨t.ms=[]:=by
 unfold zdy at h
 split at h
 ·simp only [Bool.and_eq_true,decide_eq_true_eq] at h
  exact .inl (List.eq_nil_of_length_eq_zero h.1)
 ·simp only [Bool.and_eq_true,decide_eq_true_eq] at h
  exact .inr (List.eq_nil_of_length_eq_zero h.1)
theorem zpc {x:TbP} {r:Bool} (h:za1 r x.tb=true):∃ s a:Nat,x.ns=(s:Int)∧s≤16∧(ahT x.f).length=a∧a≤8∧zaA x.ns x.nb=true:=by
 obtain ⟨_,_,_,h4,_⟩:=zco h
 have hs:x.ns=0∨x.ns=4∨x.ns=16:=zbw h4
 exact ⟨x.ns.toNat,(ahT x.f).length,by omega,by omega,rfl,by unfold ahT;split <;> simp,h4⟩
theorem zm2 {x:TbP} {a s:Nat} (hl:x.nb.length=16) (hr:zaA x.ns x.nb=true) (ha8:a≤8) (ha:(ahT x.f).length=a) (hs:x.ns=(s:Int)) (hs16:s≤16):(zgy x.tb).length≤30:=by
 have h1:=zc9 x.ns hl
 unfold zgy
 show (UInt8.ofNat _::(ahT x.f++(zat x.ns x.nb++[0]))).length≤30
 simp only [List.length_cons,List.length_append,List.length_nil]
 omega
set_option maxHeartbeats 2000000 in
theorem zes (w:World) (lo hi:Nat) (x:TbP) (b:Bool) (h:mTb w lo hi x) (hw:wTb x) (hh:hi≤w.heap.size) (hfit:FitT x) (hN:zaM w) (hr:za1 b x.tb=true) :
  Calls Tryz.prog 42 #[.agg (tbC x),.bool b] w fun e w'=>∃ v,e = .returned v∧w'.ownsRow w.heap.size 5 1 v (valT b x.tb).length (bvs (valT b x.tb))∧Below w.heap.size w w':=by
 obtain ⟨r1,r2,_,r4,r5⟩:=zco hr
 obtain ⟨F,hF⟩:∃ F:Nat,x.f=(F:Int):=⟨x.f.toNat,by have:x.f=5∨x.f=128:=r2;omega⟩
 have hF2:F=5∨F=128:=by have:x.f=5∨x.f=128:=r2;omega
 have Q0:Hid (TgS w (w.alloc (.cells (tbC x) 53)) lo hi x):=hide ⟨TbS.start h hw hh,hN.below ((Below.refl _ _).alloc (Nat.le_refl _) _)⟩
 have HF:=hide hF
 have HFT:=hide hfit
 have HOB:=hide (zcZ hw)
 have HR:=hide hr
 have HS1:Hid (x.s=4∨x.s=16):=hide r1
 have hFI:(F:Int)<256:=by omega
 clear h hw hfit hN hr r1 r2 r4 r5 hF
 go_enter Tryz.func42,Tryz.ntmps42
 go_wp2_with fail
 refine wp_region_held_drew (S:=fun z=>TgS w z lo hi x) (by kernel_rfl) Q0.out.drew (fun hHeld=>?_)
 refine rgT 0 ?_
 refine rgK 1 (fun w' hSw=>hSw.s.c0) ?_
 refine rgT 3 ?_
 refine rgK 4 (fun w' hSw=>(hSw.s.c1.trans (by rw [HF.out]):w'.cell? ⟨w.heap.size,1,none⟩=some (.int .i64 (F:Int)))) ?_
 refine rgV 5 (.int .u8 (F:Int)) ?_ ?_
 ·(intro w' hSw;rcases hF2 with rfl | rfl <;> (go_simp <;> rfl))
 refine zae (i:=2) rfl (by kernel_rfl) (by rfl) (zmz _ x.s HS1.out) (fun w=>by kernel_rfl) ?_
 rintro e w1 ⟨rfl,rfl⟩
 refine ⟨_,rfl,hHeld,fun hHeld=>?_⟩
 refine rgN ?_
 refine zaC (i:=6) (v:=.slice (some ⟨(w.alloc (.cells (tbC x) 53)).drew.heap.size,0,none⟩) 3 3) (w':=(w.alloc (.cells (tbC x) 53)).drew.alloc (.cells #[.int .u8 0,.int .u8 ((numT x.s).toNat:Int),.int .u8 (F:Int)] 5)) rfl (by kernel_rfl) (by rfl) ?_ (hHeld.new _) (fun hHeld=>?_)
 ·(go_simp <;> with_reducible rfl)
 refine rgN ?_
 refine rgT 7 ?_
 refine wpAnyH_done (by kernel_rfl) ?_ _
 have TH:=hide (zuN (w.alloc (.cells (tbC x) 53)).drew 0 ((numT x.s).toNat:Int) (F:Int) 5 0 (numT x.s) (UInt8.ofNat F) rfl rfl (by rcases hF2 with rfl | rfl <;> rfl))
 have S2:=hide hHeld
 have e1:(w.alloc (.cells (tbC x) 53)).drew.heap.size=w.heap.size+1:=by simp
 rw [e1] at TH
 have TH2:=hide (TH.out.lt.more (lo':=0) (Nat.zero_le _) (Nat.le_refl _))
 clear hHeld TH e1 Q0
 generalize ((w.alloc (.cells (tbC x) 53)).drew.alloc (.cells #[.int .u8 0,.int .u8 ((numT x.s).toNat:Int),.int .u8 (F:Int)] 5))=w2 at *
 have NX2:=hide (At.nil w2 0 w2.heap.size none)
 have HLM:Hid ((rowO x.ms).length≤138600000000000):=hide (zo4 S2.out.s.sz.ms HFT.out.m S2.out.s.m.1.len)
 have HLU:Hid ((zew x.us).length≤84000000000000):=hide (zmJ S2.out.s.sz.us HFT.out.u S2.out.s.m.2.1.len)
 have HEM:Hid ((rowO x.ms).length+(zew x.us).length≤138600000000000):=hide (by
  have h1:=HLM.out
  have h2:=HLU.out
  rcases zlE (zco HR.out).2.2.1 with h0 | h0
  ·have h3:zew x.us=[]:=by rw [show x.us=[] from h0];rfl
   rw [h3];simpa using h1
  ·have h3:rowO x.ms=[]:=by rw [show x.ms=[] from h0];rfl
   rw [h3];simp;omega)
 cases b
 ·have HFL:Hid (([[0,numT x.s,UInt8.ofNat F],[],rowO x.ms,zew x.us]:List (List UInt8)).flatten=valT false x.tb):=hide (by
   have e2:x.tb.f.toNat=F:=by show x.f.toNat=F;rw [HF.out];rfl
   unfold valT zbU
   rw [e2]
   simp
   exact ⟨rfl,rfl⟩)
  have HSUM:Hid (([[0,numT x.s,UInt8.ofNat F],[],rowO x.ms,zew x.us]:List (List UInt8)).flatten.length≤140737488351000):=hide (by
   have h1:=HLM.out
   have h2:=HLU.out
   have h4:=HEM.out
   simp
   omega)
  have k19:=S2.out.s.c19
  go_wp2_with fail
  refine (zom _ lo hi x.mA x.mn x.mc x.ms S2.out.s.m.1 S2.out.here S2.out.s.sz.ms HFT.out.k HFT.out.m S2.out.n).mono ?_
  rintro e w4 ⟨v4,rfl,ho4,hb4⟩
  obtain ⟨A4,c4,rfl,_,_⟩:=zac ho4
  have S4:=hide (S2.out.on hb4)
  have M4:=hide ((At.own ho4).more (lo':=0) (hi':=w4.heap.size) (Nat.zero_le _) (Nat.le_refl _))
  have T4:=hide ((TH2.out.below hb4).more (lo':=0) (hi':=w4.heap.size) (Nat.le_refl _) hb4.size)
  have N4:=hide ((NX2.out.below hb4).more (lo':=0) (hi':=w4.heap.size) (Nat.le_refl _) hb4.size)
  have k20:=S4.out.s.c20
  clear ho4 hb4 S2 TH2 NX2 k19
  go_wp2_with fail
  refine (znF _ lo hi x.uA x.un x.uc x.us S4.out.s.m.2.1 S4.out.here S4.out.s.sz.us HFT.out.u).mono ?_
  rintro e w5 ⟨v5,rfl,ho5,hb5⟩
  obtain ⟨A5,c5,rfl,_,_⟩:=zac ho5
  have S5:=hide (S4.out.on hb5)
  have U5:=hide ((At.own ho5).more (lo':=0) (hi':=w5.heap.size) (Nat.zero_le _) (Nat.le_refl _))
  have R5:=hide (zqV (c1:=3) (c2:=0) (c3:=c4) (c4:=c5) ((T4.out.below hb5).more (lo':=0) (hi':=w5.heap.size) (Nat.le_refl _) hb5.size) ((N4.out.below hb5).more (lo':=0) (hi':=w5.heap.size) (Nat.le_refl _) hb5.size) ((M4.out.below hb5).more (lo':=0) (hi':=w5.heap.size) (Nat.le_refl _) hb5.size) U5.out)
  clear ho5 hb5 S4 T4 N4 M4 U5 k20
  go_wp2_with fail
  refine (zcN _ w5.heap.size 36 _ [[0,numT x.s,UInt8.ofNat F],[],rowO x.ms,zew x.us] 4 rfl (by decide) (Blk.new w5 _ _) (R5.out.below ((Below.refl w5.heap.size w5).alloc (Nat.le_refl _) _) |>.wide (by simp)) HSUM.out).mono ?_
  rw [HFL.out]
  rintro e w6 ⟨v6,rfl,ho6,hb6⟩
  go_wp2
  go_ret
  exact ⟨v6,rfl,zav ho6 (Nat.le_trans S5.out.s.bl.size (by simp)),zaa (S5.out.s.bl.alloc S5.out.s.bl.size _) hb6 (Nat.le_refl _)⟩
 ·obtain ⟨s,a,hs,hs16,ha,ha8,hra⟩:=zpc HR.out
  have HL:=hide (zm2 S2.out.s.sz.nb hra ha8 ha hs hs16)
  have HFL:Hid (([[0,numT x.s,UInt8.ofNat F],zgy x.tb,rowO x.ms,zew x.us]:List (List UInt8)).flatten=valT true x.tb):=hide (by
   have e2:x.tb.f.toNat=F:=by show x.f.toNat=F;rw [HF.out];rfl
   unfold valT zbU
   rw [e2]
   simp
   exact ⟨rfl,rfl⟩)
  have HSUM:Hid (([[0,numT x.s,UInt8.ofNat F],zgy x.tb,rowO x.ms,zew x.us]:List (List UInt8)).flatten.length≤140737488351000):=hide (by
   have h1:=HLM.out
   have h2:=HLU.out
   have h4:=HEM.out
   have h3:=HL.out
   simp
   omega)
  have RG2:=hide S2.out.s.rng
  have HA:=hide ha
  have HS:=hide hs
  have HRA:=hide hra
  clear ha hs hra NX2
  go_wp2_with ((with_reducible refine zan ?_ (.tmp 2) rfl w.heap.size 0 rfl x RG2.out HOB.out ?_);· rfl)
  refine (zrH _ lo hi x S2.out.s.m S2.out.s.sz S2.out.here a s HA.out ha8 HS.out hs16 HRA.out).mono ?_
  rintro e w3 ⟨v3,rfl,ho3,hb3⟩
  obtain ⟨A3,c3,rfl,_,_⟩:=zac ho3
  have S3:=hide (S2.out.on hb3)
  have NX3:=hide ((At.own ho3).more (lo':=0) (hi':=w3.heap.size) (Nat.zero_le _) (Nat.le_refl _))
  have TH3:=hide ((TH2.out.below hb3).more (lo':=0) (hi':=w3.heap.size) (Nat.le_refl _) hb3.size)
  clear ho3 hb3 S2 TH2 RG2
  have k19b:=S3.out.s.c19
  go_wp2_with fail
  refine (zom _ lo hi x.mA x.mn x.mc x.ms S3.out.s.m.1 S3.out.here S3.out.s.sz.ms HFT.out.k HFT.out.m S3.out.n).mono ?_
  rintro e w4 ⟨v4,rfl,ho4,hb4⟩
  obtain ⟨A4,c4,rfl,_,_⟩:=zac ho4
  have S4:=hide (S3.out.on hb4)
  have M4:=hide ((At.own ho4).more (lo':=0) (hi':=w4.heap.size) (Nat.zero_le _) (Nat.le_refl _))
  have T4:=hide ((TH3.out.below hb4).more (lo':=0) (hi':=w4.heap.size) (Nat.le_refl _) hb4.size)
  have N4:=hide ((NX3.out.below hb4).more (lo':=0) (hi':=w4.heap.size) (Nat.le_refl _) hb4.size)
  have k20:=S4.out.s.c20
  clear ho4 hb4 S3 TH3 NX3 k19b
  go_wp2_with fail
  refine (znF _ lo hi x.uA x.un x.uc x.us S4.out.s.m.2.1 S4.out.here S4.out.s.sz.us HFT.out.u).mono ?_
  rintro e w5 ⟨v5,rfl,ho5,hb5⟩
  obtain ⟨A5,c5,rfl,_,_⟩:=zac ho5
  have S5:=hide (S4.out.on hb5)
  have U5:=hide ((At.own ho5).more (lo':=0) (hi':=w5.heap.size) (Nat.zero_le _) (Nat.le_refl _))
  have R5:=hide (zqV (c1:=3) (c2:=c3) (c3:=c4) (c4:=c5) ((T4.out.below hb5).more (lo':=0) (hi':=w5.heap.size) (Nat.le_refl _) hb5.size) ((N4.out.below hb5).more (lo':=0) (hi':=w5.heap.size) (Nat.le_refl _) hb5.size) ((M4.out.below hb5).more (lo':=0) (hi':=w5.heap.size) (Nat.le_refl _) hb5.size) U5.out)
  clear ho5 hb5 S4 T4 N4 M4 U5 k20
  go_wp2_with fail
  refine (zcN _ w5.heap.size 36 _ [[0,numT x.s,UInt8.ofNat F],zgy x.tb,rowO x.ms,zew x.us] 4 rfl (by decide) (Blk.new w5 _ _) (R5.out.below ((Below.refl w5.heap.size w5).alloc (Nat.le_refl _) _) |>.wide (by simp)) HSUM.out).mono ?_
  rw [HFL.out]
  rintro e w6 ⟨v6,rfl,ho6,hb6⟩
  go_wp2
  go_ret
  exact ⟨v6,rfl,zav ho6 (Nat.le_trans S5.out.s.bl.size (by simp)),zaa (S5.out.s.bl.alloc S5.out.s.bl.size _) hb6 (Nat.le_refl _)⟩
end
section
set_option maxRecDepth 20000
set_option maxHeartbeats 2000000
open Go.RowKit
theorem zvF (bs:List UInt8):szN ((zas bs 2:Nat):Int)=famS bs:=by
 unfold szN famS
 by_cases h1:zas bs 2=1
 ·rw [if_pos (by omega),if_pos h1]
 ·rw [if_neg (by omega),if_neg h1]
  by_cases h2:zas bs 2=2
  ·rw [if_pos (by omega),if_pos h2]
  ·rw [if_neg (by omega),if_neg h2]
def rdrL (g:Nat) (x:TbP):List Value:=.pointer (some ⟨g,0,none⟩)::tbL x
def rdrC (g:Nat) (x:TbP):Array Value:=(rdrL g x).toArray
structure RdrS (B:Nat) (y:World) (r g lo:Nat) (x:TbP) (bs:List UInt8) (bad:Bool):Prop where
 b:Blk y r 160 (rdrC g x)
 rd:Rd y lo g bs bad
 hB:B≤lo
 lg:lo≤g
 gr:g<r
 nb:x.nb.length=16
section
variable {B:Nat} {y z:World} {r g lo:Nat} {x:TbP} {bs bs':List UInt8} {bad bad':Bool}
theorem RdrS.c (h:RdrS B y r g lo x bs bad) {j:Nat} {u:Value} (hu:(tbL x)[j]?=some u):y.cell? ⟨r,j+1,none⟩=some u:=by
 rw [h.b.cell];unfold rdrC rdrL;simpa using hu
theorem RdrS.c0 (h:RdrS B y r g lo x bs bad):y.cell? ⟨r,0,none⟩=some (.pointer (some ⟨g,0,none⟩)):=by
 rw [h.b.cell];rfl
theorem RdrS.cs (h:RdrS B y r g lo x bs bad):y.cell? ⟨r,1,none⟩=some (.int .i64 x.s):=h.c (zoL x)
theorem RdrS.cf (h:RdrS B y r g lo x bs bad):y.cell? ⟨r,2,none⟩=some (.int .i64 x.f):=h.c (zoK x)
theorem RdrS.fz (h:RdrS B y r g lo x bs bad) (i:Nat):y.frozen? ⟨r,i,none⟩=false:=h.b.frozen i
theorem RdrS.rng (h:RdrS B y r g lo x bs bad):y.rangeAt r 1 (tbL x):=fun j u hu=>by rw [Nat.add_comm];exact h.c hu
theorem RdrS.step (h:RdrS B y r g lo x bs bad) (hr:Rd z lo g bs' bad') (hg:y.grownBy z (some g)):RdrS B z r g lo x bs' bad' :=
 ⟨h.b.grown hg (by have:=h.gr;simp;omega),hr,h.hB,h.lg,h.gr,h.nb⟩
theorem RdrS.on (h:RdrS B y r g lo x bs bad) (hb:Below y.heap.size y z):RdrS B z r g lo x bs bad :=
 ⟨h.b.over hb,h.rd.below hb h.rd.lt,h.hB,h.lg,h.gr,h.nb⟩
theorem RdrS.drew (h:RdrS B y r g lo x bs bad):RdrS B y.drew r g lo x bs bad:=h.on (zal (Below.refl _ _))
theorem RdrS.below (h:RdrS B y r g lo x bs bad) (hg:y.grownBy z (some g)):Below B y z :=
 (Below.refl B y).grown hg (by have:=h.hB;have:=h.lg;have:=h.rd.lt;omega) (fun k hk=>by injection hk with hk;subst hk;have:=h.hB;have:=h.lg;omega)
theorem RdrS.set_ (h:RdrS B y r g lo x bs bad) {x':TbP} {i:Nat} {u:Value} (he:(rdrC g x).setIfInBounds i u=rdrC g x') (hn:x'.nb.length=16):RdrS B (y.setCell ⟨r,i,none⟩ u) r g lo x' bs bad:=by
 have hb:=h.b.set_ i u
 rw [he] at hb
 have hg:y.grownBy (y.setCell ⟨r,i,none⟩ u) (some r):=zaH (zad _ _) (.inl rfl) _
 exact ⟨hb,h.rd.keep hg (fun k hk=>by injection hk with hk;subst hk;exact .inr h.gr),h.hB,h.lg,h.gr,hn⟩
end
theorem rdr_s (g:Nat) (x:TbP) (v:Int):(rdrC g x).setIfInBounds 1 (.int .i64 v)=rdrC g { x with s:=v }:=by
 unfold rdrC rdrL tbL;simp
theorem rdr_f (g:Nat) (x:TbP) (v:Int):(rdrC g x).setIfInBounds 2 (.int .i64 v)=rdrC g { x with f:=v }:=by
 unfold rdrC rdrL tbL;simp
set_option maxHeartbeats 1000000 in
theorem zpT (B:Nat) (y:World) (r g lo:Nat) (x:TbP) (bs:List UInt8) (bad:Bool) (h:RdrS B y r g lo x bs bad) :
  Calls Tryz.prog 105 #[.pointer (some ⟨r,0,none⟩)] y fun e w'=>e = .returned (.tuple #[])∧RdrS B w' r g lo { x with s:=famS bs,f:=famF bs } (fam3 bs) (bad||!zl8 bs)∧Below B y w':=by
 have H:=hide h
 have k0:=h.c0
 clear h
 go_enter Tryz.func105,Tryz.ntmps105
 go_wp2_with fail
 refine (zbK y lo g bs bad H.out.rd 2 (by decide)).mono ?_
 rintro e w1 ⟨rfl,hr1,hg1⟩
 have H1:=hide (H.out.step hr1 hg1)
 have hg1':=hg1
 clear hr1 hg1
 go_wp2_with fail
 refine (zr7 w1 _).mono ?_
 rw [zvF]
 rintro e w2 ⟨rfl,rfl⟩
 have k1:=H1.out.cs
 have f1:=H1.out.fz 1
 have H2:=hide (H1.out.set_ (rdr_s g x (famS bs)) H1.out.nb)
 have k2:=H2.out.c0
 go_wp2_with fail
 refine (zbK _ lo g _ _ H2.out.rd 1 (by decide)).mono ?_
 rintro e w3 ⟨rfl,hr3,hg3⟩
 have H3:=hide (H2.out.step hr3 hg3)
 have k3:=H3.out.cf
 have f3:=H3.out.fz 2
 have H4:=hide (H3.out.set_ (rdr_f g { x with s:=famS bs } (famF bs)) H3.out.nb)
 have HF:Hid (((zas (zai bs 2) 1:Nat):Int)=famF bs):=hide rfl
 have HB3:Hid (Below B y w3):=hide (((H.out.below hg1').trans (zcu (Below.refl _ _) (by have:=H.out.hB;have:=H.out.lg;have:=H.out.gr;show B≤r;omega) _)).trans (H2.out.below hg3))
 rw [HF.out]
 clear hr3 hg3 hg1'
 go_wp2_with fail
 go_end0
 exact ⟨rfl,by have h1:=H4.out;rw [Bool.or_assoc] at h1;unfold zl8 fam3;rw [Bool.not_and];exact h1,HB3.out.trans (zcu (Below.refl _ _) (by have:=H.out.hB;have:=H.out.lg;have:=H.out.gr;show B≤r;omega) _)⟩
theorem zdg {ops:Array Oper} {rest:List Oper} {o:Oper} {a:Act} {w:World} {Q:Exit→Act→World→Prop} (hgd:o.guard=none) (x y:Operand) (ho:o.op = .store 25 x y) (g n:Nat) (hx:a.eval x = .pointer (some ⟨g,n,none⟩)) (s:Int) (bs:List UInt8) (hy:a.eval y = .agg (zaq s bs)) (hl:bs.length=16)
  {t:TypeId} (p q r:List Value) (h:Blk w g t (p++(q++r)).toArray) (hp:p.length=n) (hq:q.length=17)
  (hk:∀ w',Blk w' g t (p++((.int .i64 s::bvs bs)++r)).toArray→w.grownBy w' (some g)→wpList Tryz.prog ops Q rest (a.put o.dst undef) w'):wpList Tryz.prog ops Q (o::rest) a w:=by
 subst hp
 refine wpList_plain hgd fun K hK'=>?_
 have ht:w.there g p.length 17:=fun j hj=>by
  refine ⟨?_,h.frozen _⟩
  rw [h.cell]
  simp
  omega
 have hrun:=zbP x y ho g p.length hx hy hl ht
 unfold Oper.wp
 rw [hrun]
 refine hK' _ _ (hk _ ?_ (zap _ _ _ _ (zad w _)))
 exact zcT (.int .i64 s::bvs bs) q p w (by simp [bvs,hl,hq]) h
theorem rdr_m {g:Nat} {x:TbP} (h:x.nb.length=16) (A:Option Addr) (n c:Nat) (l:List Mr):(rdrC g x).setIfInBounds 20 (.slice A n c)=rdrC g { x with mA:=A,mn:=n,mc:=c,ms:=l }:=by
 apply Array.toList_inj.1
 rw [Array.toList_setIfInBounds]
 unfold rdrC rdrL tbL
 show List.set _ (17+0+1+1+1) _=_
 simp only [List.set_cons_succ]
 rw [List.set_append_right _ _ (by simp [bvs,h]),show 17+0-(Value.int .i64 x.ns::bvs x.nb).length=0 by simp [bvs,h]]
 rfl
theorem rdr_u {g:Nat} {x:TbP} (h:x.nb.length=16) (A:Option Addr) (n c:Nat) (l:List Ur):(rdrC g x).setIfInBounds 21 (.slice A n c)=rdrC g { x with uA:=A,un:=n,uc:=c,us:=l }:=by
 apply Array.toList_inj.1
 rw [Array.toList_setIfInBounds]
 unfold rdrC rdrL tbL
 show List.set _ (17+1+1+1+1) _=_
 simp only [List.set_cons_succ]
 rw [List.set_append_right _ _ (by simp [bvs,h]),show 17+1-(Value.int .i64 x.ns::bvs x.nb).length=1 by simp [bvs,h]]
 rfl
theorem RdrS.far {B:Nat} {y z:World} {r g lo q:Nat} {x:TbP} {bs:List UInt8} {bad:Bool} (h:RdrS B y r g lo x bs bad) (hg:y.grownBy z (some q)) (hq:r<q):RdrS B z r g lo x bs bad :=
 ⟨h.b.grown hg (by simp;omega),h.rd.keep hg (fun k hk=>by injection hk with hk;subst hk;exact .inr (Nat.lt_trans h.gr hq)),h.hB,h.lg,h.gr,h.nb⟩
def rdrP (g:Nat) (x:TbP):List Value:=[.pointer (some ⟨g,0,none⟩),.int .i64 x.s,.int .i64 x.f]
def rdrR (x:TbP):List Value:=[.slice x.mA x.mn x.mc,.slice x.uA x.un x.uc]
def rdrA (x:TbP):List Value:=.int .i64 x.ns::bvs x.nb
theorem zkv {x:TbP} (h:x.nb.length=16):(rdrA x).length=17:=by simp [rdrA,bvs,h]
theorem zpu (B:Nat) (y:World) (r g lo:Nat) (x:TbP) (bs:List UInt8) (bad:Bool) (h:RdrS B y r g lo x bs bad) :
  Calls Tryz.prog 106 #[.pointer (some ⟨r,0,none⟩)] y fun e w'=>e = .returned (.tuple #[]) ∧
   (∃ bad',RdrS B w' r g lo { x with ns:=ofS (zaf (zab (zai bs 1) (zas bs 1:Nat)) ((ahT x.f).length:Nat)),nb:=ofB (zaf (zab (zai bs 1) (zas bs 1:Nat)) ((ahT x.f).length:Nat)) } (zaf (zaf (zai bs 1) (zas bs 1:Nat)) 1) bad')∧Below B y w':=by
 have H:=hide h
 have HBR:B<r:=by have:=h.hB;have:=h.lg;have:=h.gr;omega
 have HBG:B≤g:=by have:=h.hB;have:=h.lg;omega
 have HNN:=hide (zeg bs)
 clear h
 go_enter Tryz.func106,Tryz.ntmps106
 go_wp2_with fail
 refine wp_region_held_drew (S:=fun z=>Blk z r 160 (rdrC g x)) (by kernel_rfl) H.out.b.drew (fun hHeld=>?_)
 refine rgT 0 ?_
 refine rgT 1 ?_
 refine rgT 2 ?_
 refine rgK 3 (fun w' hSw=>((hSw.cell 0).trans rfl:w'.cell? ⟨r,0,none⟩=some (.pointer (some ⟨g,0,none⟩)))) ?_
 refine rgT 4 ?_
 refine rgT 5 ?_
 refine rgT 6 ?_
 refine rgK 7 (fun w' hSw=>((hSw.cell 0).trans rfl:w'.cell? ⟨r,0,none⟩=some (.pointer (some ⟨g,0,none⟩)))) ?_
 refine zae (i:=8) rfl (by kernel_rfl) (by rfl) (zbK _ lo g bs bad H.out.drew.rd 1 (by decide)) (fun w=>by kernel_rfl) ?_
 rintro e w1 ⟨rfl,hr1,hg1⟩
 have H1:=hide (H.out.drew.step hr1 hg1)
 have B1:=hide ((zal (Below.refl B y)).trans (H.out.drew.below hg1))
 generalize hNE:zas bs 1=N at *
 have HNE:=hide hNE
 clear hNE
 have wk:(Lit.int .i64 (N:Int)).wf=true:=zcA (by have:=HNN.out;omega)
 refine ⟨_,rfl,H1.out.b,fun hHeld=>?_⟩
 refine rgN ?_
 refine zae (i:=9) rfl (by kernel_rfl) (by rfl) (zvG w1 lo g _ _ H1.out.rd (N:Int) wk) (fun w=>by kernel_rfl) ?_
 rintro e w2 ⟨g2,rfl,hg2,hr2,hr2',hgr2⟩
 have H2:=hide (H1.out.step hr2' hgr2)
 have B2:=hide (B1.out.trans (H1.out.below hgr2))
 have G2:=hide hr2
 have HRG:Hid (r<g2∧r<w1.heap.size):=hide ⟨Nat.lt_of_lt_of_le H1.out.b.lt hg2,H1.out.b.lt⟩
 have HBZ:Hid (B≤w1.heap.size):=hide (by have:=H1.out.b.lt;omega)
 refine ⟨_,rfl,H2.out.b,fun hHeld=>?_⟩
 refine rgN ?_
 refine rgT 10 ?_
 refine wpAnyH_done (by kernel_rfl) ?_ _
 have HO2:=hide hHeld.lt
 generalize hsb:zab (zai bs 1) (N:Int)=sb at *
 have HSB:=hide hsb
 generalize hrb:zaf (zai bs 1) (N:Int)=rb at *
 have HRB:=hide hrb
 have kf:=H2.out.cf
 have kp:=H2.out.c0
 clear hHeld hsb hrb hr1 hg1 hg2 hr2 hr2' hgr2 wk H H1 B1
 go_wp2_with fail
 refine (zjL w2 x.f).mono ?_
 rintro e w3 ⟨rfl,rfl⟩
 have HA8:Hid ((ahT x.f).length≤8):=hide (by unfold ahT;split <;> simp)
 generalize hal:(ahT x.f).length=al at *
 have HAL:=hide hal
 clear hal
 go_wp2_with fail
 refine (zaZ w2 _ g2 sb _ G2.out (al:Int) (zcA (by have:=HA8.out;omega))).mono ?_
 rintro e w3 ⟨v3,rfl,_,hr3,hg3⟩
 have H3:=hide (H2.out.far hg3 HRG.out.1)
 have G3:=hide hr3
 have B3:=hide (B2.out.trans ((Below.refl B w2).grown hg3 (by have:=H2.out.b.lt;omega) (fun k hk=>by injection hk with hk;subst hk;have:=HRG.out.1;omega)))
 clear hr3 hg3 H2 G2 B2 kf kp HO2
 generalize hnb:zaf sb (al:Int)=nb9 at *
 have HNB:=hide hnb
 clear hnb
 go_wp2_with fail
 refine (G3.out.left).mono ?_
 rintro e w4 ⟨rfl,rfl⟩
 go_wp2_with fail
 refine (zaZ w3 _ g2 nb9 _ G3.out (nb9.length:Nat) (zcA (by have:=G3.out.len;omega))).mono ?_
 rw [zig]
 rintro e w4 ⟨v4,rfl,ho4,hr4,hg4⟩
 obtain ⟨A4,c4,rfl,_,_⟩:=zac ho4
 have H4:=hide (H3.out.far hg4 HRG.out.1)
 have B4:=hide (B3.out.trans ((Below.refl B w3).grown hg4 (by have:=H3.out.b.lt;omega) (fun k hk=>by injection hk with hk;subst hk;have:=HRG.out.1;omega)))
 have T4:=hide (At.own ho4)
 clear ho4 hr4 hg4 H3 G3 B3
 go_wp2_with fail
 refine (zhw w4 _ _ A4 nb9.length c4 nb9 T4.out (Nat.le_refl _)).mono ?_
 have HL16:=hide (zoj nb9)
 generalize ofE nb9=oe at *
 rintro e w5 ⟨rfl,hb5⟩
 have H5:=hide (H4.out.on hb5)
 have B5:=hide (B4.out.trans (hb5.mono (by have:=H4.out.b.lt;omega)))
 have X5:Hid (Blk w5 r 160 (rdrP g x++(rdrA x++rdrR x)).toArray):=hide H5.out.b
 have HX16:=hide (zkv H5.out.nb)
 clear hb5 H4 B4 T4
 go_wp2_with (refine zdg rfl (.tmp 34) (.tmp 30) rfl r 3 rfl (ofS nb9) (ofB nb9) rfl HL16.out (rdrP g x) (rdrA x) (rdrR x) X5.out rfl HX16.out ?_;intro w6 hb6 hg6;have BB6:=hide hb6;have G6:=hide hg6;clear hb6 hg6;refine Hid.out ?_)
 refine hide ?_
 have H6:Hid (RdrS B w6 r g lo { x with ns:=ofS nb9,nb:=ofB nb9 } rb _):=hide ⟨BB6.out,H5.out.rd.keep G6.out (fun k hk=>by injection hk with hk;subst hk;exact .inr H5.out.gr),H5.out.hB,H5.out.lg,H5.out.gr,HL16.out⟩
 have B6:=hide (B5.out.trans ((Below.refl B w5).grown G6.out (by have:=H5.out.b.lt;omega) (fun k hk=>by injection hk with hk;subst hk;omega)))
 have kp:=H6.out.c0
 clear H5 B5 X5 BB6 G6
 go_wp2_with fail
 refine (zaZ w6 lo g rb _ H6.out.rd 1 (by decide)).mono ?_
 rintro e w7 ⟨v7,rfl,_,hr7,hg7⟩
 have H7:=hide (H6.out.step hr7 hg7)
 have B7:=hide (B6.out.trans (H6.out.below hg7))
 clear hr7 hg7
 go_wp2_with fail
 go_end0
 rw [HNE.out,HAL.out,HSB.out,HRB.out,HNB.out]
 exact ⟨rfl,⟨_,H7.out⟩,B7.out⟩
def zhr (x:TbP) (bs:List UInt8) (A:Option Addr) (n c:Nat):TbP :=
 if x.f=5 then { x with mA:=A,mn:=n,mc:=c,ms:=(rrP bs x.s).1 } else { x with uA:=A,un:=n,uc:=c,us:=(rrPU bs x.s).1 }
theorem zhs (B:Nat) (y:World) (r g lo:Nat) (x:TbP) (bs:List UInt8) (bad:Bool) (h:RdrS B y r g lo x bs bad) (hn:bs.length≤1000000000) (hN:∀ z,Below B y z→zaM z) (hm:x.mA=none∧x.mn=0∧x.mc=0∧x.ms=[]) (hu:x.uA=none∧x.un=0∧x.uc=0∧x.us=[]) :
  Calls Tryz.prog 107 #[.pointer (some ⟨r,0,none⟩)] y fun e w'=>e = .returned (.tuple #[]) ∧
   ∃ A n c bs' bad',RdrS B w' r g lo (zhr x bs A n c) bs' bad'∧mTb w' B w'.heap.size (zhr x bs A n c)∧Below B y w':=by
 have H:=hide h
 have HN:=hide hN
 have HM:=hide hm
 have HU:=hide hu
 have HBR:B<r:=by have:=h.hB;have:=h.lg;have:=h.gr;omega
 have HBN:=hide hn
 clear h hN hm hu hn
 go_enter Tryz.func107,Tryz.ntmps107
 go_wp2_with fail
 refine wp_region_held_drew (S:=fun z=>Blk z r 160 (rdrC g x)∧True) (by kernel_rfl) ⟨H.out.b.drew,trivial⟩ (fun hHeld=>?_)
 refine rgT 0 ?_
 refine rgT 1 ?_
 refine rgT 2 ?_
 refine rgK 3 (fun w' hSw=>((hSw.1.cell 0).trans rfl:w'.cell? ⟨r,0,none⟩=some (.pointer (some ⟨g,0,none⟩)))) ?_
 refine rgT 4 ?_
 refine rgT 5 ?_
 refine rgT 6 ?_
 refine rgK 7 (fun w' hSw=>((hSw.1.cell 0).trans rfl:w'.cell? ⟨r,0,none⟩=some (.pointer (some ⟨g,0,none⟩)))) ?_
 refine rgT 8 ?_
 refine rgT 9 ?_
 refine zae (i:=10) rfl (by kernel_rfl) (by rfl) (H.out.drew.rd.left) (fun w=>by kernel_rfl) ?_
 rintro e w1 ⟨rfl,rfl⟩
 refine ⟨_,rfl,hHeld,fun hHeld=>?_⟩
 refine rgN ?_
 refine zae (i:=11) rfl (by kernel_rfl) (by rfl) (zaZ _ lo g bs bad H.out.drew.rd (bs.length:Nat) (zcA (by have:=H.out.rd.len;omega))) (fun w=>by kernel_rfl) ?_
 rw [zig]
 rintro e w1 ⟨v1,rfl,ho1,hr1,hg1⟩
 have H1:=hide (H.out.drew.step hr1 hg1)
 have B1:=hide ((zal (Below.refl B y)).trans (H.out.drew.below hg1))
 obtain ⟨A1,c1,rfl,hc1,_⟩:=zac ho1
 have T1:=hide (At.own ho1)
 refine ⟨_,rfl,⟨H1.out.b,trivial⟩,fun hHeld=>?_⟩
 refine rgN ?_
 refine rgT 12 ?_
 refine wpAnyH_done (by kernel_rfl) ?_ _
 have N1:=hide (HN.out w1 B1.out)
 have kf:=H1.out.cf
 have ks:=H1.out.cs
 have hbz:B≤w1.heap.size:=by have:=H1.out.b.lt;omega
 clear hHeld ho1 hr1 hg1 HN
 by_cases hf:x.f=5
 ·have HR:Hid (∀ A n c,zhr x bs A n c={ x with mA:=A,mn:=n,mc:=c,ms:=(rrP bs x.s).1 }):=hide (fun A n c=>if_pos hf)
  go_wp2_with fail
  refine (zlV w1 _ _ A1 bs.length c1 bs x.s T1.out (Nat.le_refl _) hc1 HBN.out N1.out).mono ?_
  have HW:=hide (zmI bs x.s)
  unfold zgO
  generalize (rrP bs x.s).1=l at *
  generalize (rrP bs x.s).2=er at *
  rintro e w2 ⟨v2,rfl,ho2,hb2⟩
  obtain ⟨A2,c2,rfl,hc2,_⟩:=za0 ho2
  have L2:=hide (AtG.own (fun m hm=>zdC (HW.out m hm).1) rfl ho2)
  have H2:=hide (H1.out.on hb2)
  have H1r:=hide H1.out.b.lt
  have B2:=hide (B1.out.trans (hb2.mono hbz))
  have k20:=H2.out.c (zls H2.out.nb)
  have f20:=H2.out.fz 20
  have H3:=hide (H2.out.set_ (rdr_m H2.out.nb A2 l.length c2 l) H2.out.nb)
  clear ho2 hb2 H1 T1 N1 kf ks
  go_wp2_with fail
  (try simp only [Exit.inBlock,Exit.then])
  refine bodyPost_ret (results_none rfl _ _ _) rfl ?_
  refine ⟨rfl,A2,l.length,c2,_,_,(by rw [HR.out];exact H3.out),?_,B2.out.trans (zcu (Below.refl _ _) (by show B≤r;omega) _)⟩
  ·rw [HR.out]
   have L3:=(L2.out.grown (zaH (p:=⟨r,20,none⟩) (zad w2 (some r)) (.inl rfl) (.slice A2 l.length c2)) (Nat.le_refl _) (fun q e=>by injection e with e;have:=H1r.out;omega)).more (lo':=B) hbz (zaH (p:=⟨r,20,none⟩) (zad w2 (some r)) (.inl rfl) (.slice A2 l.length c2)).size
   obtain ⟨u1,u2,u3,u4⟩:=HU.out
   refine ⟨L3,?_,hc2,?_⟩
   ·show AtG uroL _ _ _ x.uA x.un x.us
    rw [u1,u2,u4]
    exact AtG.nil _ _ _ _
   ·show x.un≤x.uc
    rw [u2,u3]
    exact Nat.le_refl _
 ·have HR:Hid (∀ A n c,zhr x bs A n c={ x with uA:=A,un:=n,uc:=c,us:=(rrPU bs x.s).1 }):=hide (fun A n c=>if_neg hf)
  go_wp2_with fail
  refine (zli w1 _ _ A1 bs.length c1 bs x.s T1.out (Nat.le_refl _) hc1 HBN.out).mono ?_
  have HW:=hide (znY bs x.s)
  unfold zfn
  generalize (rrPU bs x.s).1=l at *
  generalize (rrPU bs x.s).2=er at *
  rintro e w2 ⟨v2,rfl,ho2,hb2⟩
  obtain ⟨A2,c2,rfl,hc2,_⟩:=za0 ho2
  have L2:=hide (AtG.own (fun m hm=>zdX (HW.out m hm).1) rfl ho2)
  have H2:=hide (H1.out.on hb2)
  have H1r:=hide H1.out.b.lt
  have B2:=hide (B1.out.trans (hb2.mono hbz))
  have k21:=H2.out.c (zlr H2.out.nb)
  have f21:=H2.out.fz 21
  have H3:=hide (H2.out.set_ (rdr_u H2.out.nb A2 l.length c2 l) H2.out.nb)
  clear ho2 hb2 H1 T1 N1 kf ks
  go_wp2_with fail
  go_end0
  refine ⟨rfl,A2,l.length,c2,_,_,(by rw [HR.out];exact H3.out),?_,B2.out.trans (zcu (Below.refl _ _) (by show B≤r;omega) _)⟩
  ·rw [HR.out]
   have L3:=(L2.out.grown (zaH (p:=⟨r,21,none⟩) (zad w2 (some r)) (.inl rfl) (.slice A2 l.length c2)) (Nat.le_refl _) (fun q e=>by injection e with e;have:=H1r.out;omega)).more (lo':=B) hbz (zaH (p:=⟨r,21,none⟩) (zad w2 (some r)) (.inl rfl) (.slice A2 l.length c2)).size
   obtain ⟨u1,u2,u3,u4⟩:=HM.out
   refine ⟨?_,L3,?_,hc2⟩
   ·show AtG mroL _ _ _ x.mA x.mn x.ms
    rw [u1,u2,u4]
    exact AtG.nil _ _ _ _
   ·show x.mn≤x.mc
    rw [u2,u3]
    exact Nat.le_refl _
def rd0:TbP:=⟨0,0,0,zay,none,0,0,[],none,0,0,[]⟩
theorem zu5 (reached:Bool) (b:List UInt8) (A:Option Addr) (n c:Nat) :
  (zhr (if reached then { rd0 with s:=famS b,f:=famF b,ns:=ofS (nxA b),nb:=ofB (nxA b) } else { rd0 with s:=famS b,f:=famF b }) (if reached then nx6 b else fam3 b) A n c).tb=rdT reached b:=by
 unfold zhr rdT
 by_cases hf:famF b=5
 ·cases reached
  ·simp only [Bool.false_eq_true,if_false]
   rw [if_pos hf,if_pos hf,if_pos hf]
   rfl
  ·simp only [if_true]
   rw [if_pos hf,if_pos hf,if_pos hf]
   rfl
 ·cases reached
  ·simp only [Bool.false_eq_true,if_false]
   rw [if_neg hf,if_neg hf,if_neg hf]
   rfl
  ·simp only [if_true]
   rw [if_neg hf,if_neg hf,if_neg hf]
   rfl
end
end Go.Proofs.YtookpplebikfnaaGreatDoor
