/-
  What readBits, readKey, readersOf and its closures of package mroute do, in whatever memory. No condition.
  What readersOf and read of package mroute do, in whatever memory. The one condition: the program's table holds what its text lays.
-/
import Derived.Test.YtplpglfjcieloaaGreatDoorKSAW
import Derived.Test.YtplpglfjcieloaaGreatDoorKSAX
set_option linter.unusedVariables false
set_option linter.unusedSimpArgs false
namespace Go.Proofs.YtplpglfjcieloaaGreatDoor
open Tryz
section
set_option maxRecDepth 20000
open Go.RowKit
theorem zcA {n:Nat} (h:n<9223372036854775808):(Lit.int .i64 (n:Int)).wf=true:=WalkArith.wf_i64 (by omega)
set_option maxHeartbeats 1000000 in
theorem zhG (w:World) (B gr:Nat) (b:List UInt8) (bad:Bool) (h:Rd w B gr b bad) (hB:B≤gr) :
  Calls prog 227 #[.pointer (some ⟨gr,0,none⟩)] w fun e w'=>e = .returned (.agg (zaq (rdA b).1 (rdA b).2))∧(∃ bad',Rd w' B gr (rdAr b) bad')∧w.grownBy w' (some gr):=by
 have hlt:=h.lt
 have HR:=hD (h.keep (zaN (zad w none) (.cells zAdr 26)) (by simp))
 have HN:=hD (Blk.new w 26 zAdr)
 have G0:=hD (zaN (zad w (some gr)) (.cells zAdr 26))
 have HV1:=hD (zen b)
 have HL:=hD (zdL (zab (zaf b 1) ((zap b 1/8:Nat):Int)))
 have HE:Hid (rdA b=(ofS (zab (zaf b 1) ((zap b 1/8:Nat):Int)),ofB (zab (zaf b 1) ((zap b 1/8:Nat):Int)))):=hD rfl
 have HER:Hid (rdAr b=zae (zaf b 1) ((zap b 1/8:Nat):Int)):=hD rfl
 clear h
 go_enter func227,ntmps227
 go_wp2_with fail
 refine (zaW _ B gr b bad HR.o 1 (by decide)).mono ?_
 rintro e w1 ⟨rfl,hr1,hg1⟩
 have R1:=hD hr1
 have G1:=hD (zan G0.o hg1)
 have N1:=hD (HN.o.grown hg1 (by intro e;injection e with e;omega))
 clear hr1 hg1
 generalize hn:zap b 1=n at *
 have hn2:=HV1.o
 have hq:((n:Int)/8)=((n/8:Nat):Int):=by omega
 generalize hq8:n/8=q at *
 have hq2:q<256:=by omega
 have HQ:=hD hq
 clear hq hn hq8
 go_wp2_with fail
 rw [HQ.o]
 refine (zaR _ B gr _ _ R1.o (q:Int) (zcA (by omega))).mono ?_
 rintro e w2 ⟨v,rfl,ho2,hr2,hg2⟩
 obtain ⟨A,c,rfl,_,_⟩:=zag ho2
 have HA:=hD (At.own ho2)
 have R2:=hD hr2
 have G2:=hD (zan G1.o hg2)
 have N2:=hD (N1.o.grown hg2 (by intro e;injection e with e;omega))
 have hs2:=G2.o.size
 clear ho2 hr2 hg2
 go_wp2_with fail
 refine (zgF w2 _ _ A _ c _ HA.o lr).mono ?_
 rintro e w3 ⟨rfl,hb3⟩
 have R3:=hD (R2.o.below hb3 (by omega))
 have G3:=hD (zeI G2.o hb3)
 have N3:=hD (N2.o.over hb3)
 have M3:=hD (Blk.new w3 26 zAdr)
 clear hb3
 go_wp2_with (refine zaI rfl (.tmp 3) (.tmp 12) rfl w3.heap.size rfl (s:=ofS (zab (zaf b 1) (q:Int))) (bs:=ofB (zab (zaf b 1) (q:Int))) rfl HL.o M3.o rfl ?_;intro w4 hb4 hg4;have HB4:=hD hb4;have W4:Hid (Below w3.heap.size w3 w4):=hD (((Below.refl _ _).alloc lr _).grown hg4 (by simp) (by simp));clear hb4 hg4;refine Hid.o ?_)
 refine hD ?_
 have N4:=hD (N3.o.over W4.o)
 have R4:=hD (R3.o.below W4.o (by have:=G3.o.size;omega))
 have G4:=hD (zeI G3.o W4.o)
 go_wp2_with (first
  | (with_reducible refine zaK rfl (.tmp 3) rfl w3.heap.size rfl HB4.o HL.o ?_)
  | (refine zaI rfl (.tmp 2) (.tmp 14) rfl w.heap.size rfl (s:=ofS (zab (zaf b 1) (q:Int))) (bs:=ofB (zab (zaf b 1) (q:Int))) rfl HL.o N4.o rfl ?_;intro w5 hb5 hg5;have HB5:=hD hb5;have HG5:=hD hg5;clear hb5 hg5;refine Hid.o ?_))
 refine hD ?_
 go_wp2
 refine zgz (p:=2) rfl rfl HB5.o HL.o rfl ?_
 rw [HE.o,HER.o]
 refine ⟨rfl,⟨_,R4.o.keep HG5.o (fun k hk=>by injection hk with hk;omega)⟩,?_⟩
 exact ⟨HG5.o.os.trans G4.o.os,HG5.o.tape.trans G4.o.tape,HG5.o.output.trans G4.o.output,Nat.le_trans G4.o.size HG5.o.size,fun i hi hne=>(HG5.o.block i (Nat.lt_of_lt_of_le hi G4.o.size) (by intro e;injection e with e;omega)).trans (G4.o.block i hi hne)⟩
theorem zyF (w:World) (x y:UInt8):At (w.alloc (.cells #[.int .u8 (x.toNat:Int),.int .u8 (y.toNat:Int)] 5)) w.heap.size (w.heap.size+1) (some ⟨w.heap.size,0,none⟩) 2 [x,y]:=by
 have hb:=Blk.new w 5 #[.int .u8 (x.toNat:Int),.int .u8 (y.toNat:Int)]
 refine ⟨rfl,fun _=>⟨_,0,rfl,lr,by omega,fun j u hu=>?_⟩⟩
 rw [Nat.zero_add,hb.cell j]
 match j,hu with
 | 0,hu=>simp at hu;subst hu;rfl
 | 1,hu=>simp at hu;subst hu;rfl
theorem zhM {o:Oper} {a:Act} {w:World} (x y:Operand) (ho:o.op = .binOp .add 9 x y 9) {s r:List UInt8} (hx:a.eval x = .string ⟨s.toArray⟩) (hy:a.eval y = .string ⟨r.toArray⟩)
  (hl:s.length+r.length≤9223372036854775807):(execOp a.eval o).run prog w = .ok (.value (.string ⟨(s++r).toArray⟩)) w:=by
 have h:=run_string_add_sum (P:=prog) (w:=w) ⟨s.toArray⟩ ⟨r.toArray⟩ (by simpa [ByteArray.size] using hl)
 have e:(⟨s.toArray⟩:ByteArray)++⟨r.toArray⟩=⟨(s++r).toArray⟩:=by
  apply ByteArray.ext
  simp
 rw [e] at h
 unfold execOp
 simp [ho,hx,hy,binOp,h,Result.andThen,eqGuard]
theorem zhx (b:List UInt8) (m:Nat):(zab b (m:Int)).length≤m:=by
 unfold zab
 split
 ·rw [List.length_take];simp;omega
 ·simp
theorem zn3 (w:World) (B gr:Nat) (b:List UInt8) (bad:Bool) (h:Rd w B gr b bad) (hB:B≤gr) :
  Calls prog 230 #[.pointer (some ⟨gr,0,none⟩)] w fun e w'=>e = .returned (.string ⟨(rdKy b).toArray⟩)∧(∃ bad',Rd w' B gr (rdKr b) bad')∧w.grownBy w' (some gr):=by
 have hlt:=h.lt
 have HR:=hD h
 have HV1:=hD (zen b)
 have HV2:=hD (zen (zaf b 1))
 clear h
 go_enter func230,ntmps230
 go_wp2_with fail
 refine (zaW _ B gr b bad HR.o 1 (by decide)).mono ?_
 rintro e w1 ⟨rfl,hr1,hg1⟩
 have R1:=hD hr1
 have G1:=hD hg1
 clear hr1 hg1
 go_wp2_with fail
 refine (zaW _ B gr _ _ R1.o 1 (by decide)).mono ?_
 rintro e w2 ⟨rfl,hr2,hg2⟩
 have R2:=hD hr2
 have G2:=hD (zan G1.o hg2)
 clear hr2 hg2
 have HEK:Hid (rdKy b=[UInt8.ofNat (zap b 1),UInt8.ofNat (zap (zaf b 1) 1)]++zab (zaf (zaf b 1) 1) (zap (zaf b 1) 1:Nat)):=hD rfl
 have HER:Hid (rdKr b=zae (zaf (zaf b 1) 1) (zap (zaf b 1) 1:Nat)):=hD rfl
 generalize hn:zap b 1=n at *
 generalize hm:zap (zaf b 1) 1=m at *
 have hn2:=HV1.o
 have hm2:=HV2.o
 clear hn hm
 go_wp2_with fail
 refine wp_region_held_drew (S:=fun x=>w2.grownBy x (some gr)) (by kernel_rfl) (zaz (zad w2 _)) (fun hHeld=>?_)
 refine rgT 0 ?_
 refine rgT 1 ?_
 refine rgT 2 ?_
 refine rgT 3 ?_
 refine rgT 6 ?_
 refine rgT 7 ?_
 have AN:Hid (∀ x:World,x.heap.size=w2.heap.size∨True→At (x.alloc (.cells #[.int .u8 (IntKind.u8.wrap (n:Int)),.int .u8 (IntKind.u8.wrap (m:Int))] 5)) x.heap.size (x.heap.size+1) (some ⟨x.heap.size,0,none⟩) 2 [UInt8.ofNat n,UInt8.ofNat m]):=hD (fun x _=>by
  rw [zwt,zwt]
  exact zyF x _ _)
 have hL:=zhx (zaf (zaf b 1) 1) m
 refine ze7 (w1:=w2.drew.alloc (.cells #[.int .u8 (IntKind.u8.wrap (n:Int)),.int .u8 (IntKind.u8.wrap (m:Int))] 5)) (i:=8) (j:=4) (v:=.slice (some ⟨w2.heap.size,0,none⟩) 2 2) rfl rfl (by kernel_rfl) (by rfl) (by rfl) (zaR _ B gr _ _ (R2.o.keep (zaz (zad w2 none)) (by simp)) (m:Int) (zcA (by omega))) (fun w=>by kernel_rfl) ?_ (zaN hHeld _) (fun hHeld=>?_) ?_
 ·(go_simp <;> with_reducible rfl)
 ·refine rgN ?_
  have A1:=AN.o w2.drew (.inr trivial)
  have R3:=hD ((R2.o.keep (zaz (zad w2 none)) (by simp)).keep (zaN (zad w2.drew none) (.cells #[.int .u8 (IntKind.u8.wrap (n:Int)),.int .u8 (IntKind.u8.wrap (m:Int))] 5)) (by simp))
  have hgl:gr<w2.heap.size:=R2.o.lt
  refine zdH (S':=fun x=>w2.grownBy x (some gr)∧At x w2.heap.size (w2.heap.size+1) (some ⟨w2.heap.size,0,none⟩) 2 [UInt8.ofNat n,UInt8.ofNat m]) (fun _ h=>h.1) _ _ _ _ ?_
  have hHeld:=And.intro hHeld A1
  refine rgV 5 (.string ⟨[UInt8.ofNat n,UInt8.ofNat m].toArray⟩) ?_ ?_
  ·(intro w' hSw;exact zet rfl rfl (At.text hSw.2 22 5 underlying22 underlying5 _ 9 underlying9))
  refine zal (i:=8) rfl (by kernel_rfl) (by rfl) (zaR _ B gr _ _ R3.o (m:Int) (zcA (by omega))) (fun w=>by kernel_rfl) ?_
  rintro e w3 ⟨v,rfl,ho3,hr3,hg3⟩
  obtain ⟨A,c,rfl,_,_⟩:=zag ho3
  have R4:=hD hr3
  have HA:=At.own ho3
  have hds:w2.drew.heap.size=w2.heap.size:=rfl
  have hds:w2.drew.heap.size=w2.heap.size:=rfl
  have hds:w2.drew.heap.size=w2.heap.size:=rfl
  have hds:w2.drew.heap.size=w2.heap.size:=rfl
  have hds:w2.drew.heap.size=w2.heap.size:=rfl
  have hk3:=hHeld.2.grown hg3 (by simp) (by intro g hg;injection hg with hg;omega)
  refine ⟨_,rfl,⟨zan hHeld.1 hg3,hk3⟩,fun hHeld=>?_⟩
  refine rgN ?_
  refine zdH (S':=fun x=>(w2.grownBy x (some gr)∧At x w2.heap.size (w2.heap.size+1) (some ⟨w2.heap.size,0,none⟩) 2 [UInt8.ofNat n,UInt8.ofNat m])∧At x (w2.drew.alloc (.cells #[.int .u8 (IntKind.u8.wrap (n:Int)),.int .u8 (IntKind.u8.wrap (m:Int))] 5)).heap.size w3.heap.size A (zab (zaf (zaf b 1) 1) (m:Int)).length (zab (zaf (zaf b 1) 1) (m:Int))) (fun x h=>h.1) _ _ _ _ ?_
  have hHeld:=And.intro hHeld HA
  refine rgV 9 (.string ⟨(zab (zaf (zaf b 1) 1) (m:Int)).toArray⟩) ?_ ?_
  ·(intro w' hSw;exact zet rfl rfl (At.text hSw.2 22 5 underlying22 underlying5 _ 9 underlying9))
  refine rgV 10 (.string ⟨([UInt8.ofNat n,UInt8.ofNat m]++zab (zaf (zaf b 1) 1) (m:Int)).toArray⟩) ?_ ?_
  ·(intro w' hSw;exact zhM (.tmp 14) (.tmp 18) rfl rfl rfl (by simp;omega))
  refine rgT 11 ?_
  have GF:=hD hHeld.1.1
  refine wpAnyH_done (by kernel_rfl) ?_ _
  go_wp2
  go_ret
  rw [HEK.o,HER.o]
  refine ⟨rfl,⟨_,R4.o⟩,zan G2.o GF.o⟩
 ·rintro e w3 ⟨v,rfl,ho3,hr3,hg3⟩
  obtain ⟨A,c,rfl,_,_⟩:=zag ho3
  have HA:=At.own ho3
  have hg3':w2.grownBy w3 (some gr):=zan (zaz (zad w2 _)) hg3
  have hgl:gr<w2.heap.size:=R2.o.lt
  refine ⟨_,rfl,hg3',fun hHeld=>?_⟩
  refine rgN ?_
  refine zdH (S':=fun x=>w2.grownBy x (some gr)∧At x w2.drew.heap.size w3.heap.size A (zab (zaf (zaf b 1) 1) (m:Int)).length (zab (zaf (zaf b 1) 1) (m:Int))) (fun x h=>h.1) _ _ _ _ ?_
  have hHeld:=And.intro hHeld HA
  refine rgV 9 (.string ⟨(zab (zaf (zaf b 1) 1) (m:Int)).toArray⟩) ?_ ?_
  ·(intro w' hSw;exact zet rfl rfl (At.text hSw.2 22 5 underlying22 underlying5 _ 9 underlying9))
  refine zaG (w':=w3.alloc (.cells #[.int .u8 (IntKind.u8.wrap (n:Int)),.int .u8 (IntKind.u8.wrap (m:Int))] 5)) (i:=4) (v:=.slice (some ⟨w3.heap.size,0,none⟩) 2 2) rfl (by kernel_rfl) (by rfl) ?_ ⟨zaN hHeld.1 _,hHeld.2.alloc lr _⟩ (fun hHeld=>?_)
  ·(go_simp <;> with_reducible rfl)
  refine rgN ?_
  have R4:=hD (hr3.keep (zaN (zad w3 none) (.cells #[.int .u8 (IntKind.u8.wrap (n:Int)),.int .u8 (IntKind.u8.wrap (m:Int))] 5)) (by simp))
  have A4:=AN.o w3 (.inr trivial)
  refine zdH (S':=fun x=>(w2.grownBy x (some gr)∧At x w2.drew.heap.size w3.heap.size A (zab (zaf (zaf b 1) 1) (m:Int)).length (zab (zaf (zaf b 1) 1) (m:Int)))∧At x w3.heap.size (w3.heap.size+1) (some ⟨w3.heap.size,0,none⟩) 2 [UInt8.ofNat n,UInt8.ofNat m]) (fun x h=>h.1) _ _ _ _ ?_
  have hHeld:=And.intro hHeld A4
  refine rgV 5 (.string ⟨[UInt8.ofNat n,UInt8.ofNat m].toArray⟩) ?_ ?_
  ·(intro w' hSw;exact zet rfl rfl (At.text hSw.2 22 5 underlying22 underlying5 _ 9 underlying9))
  refine rgV 10 (.string ⟨([UInt8.ofNat n,UInt8.ofNat m]++zab (zaf (zaf b 1) 1) (m:Int)).toArray⟩) ?_ ?_
  ·(intro w' hSw;exact zhM (.tmp 14) (.tmp 18) rfl rfl rfl (by simp;omega))
  refine rgT 11 ?_
  have GF:=hD hHeld.1.1
  refine wpAnyH_done (by kernel_rfl) ?_ _
  go_wp2
  go_ret
  rw [HEK.o,HER.o]
  refine ⟨rfl,⟨_,R4.o⟩,zan G2.o GF.o⟩
def Ptrs (x:World) (gr gm br bm:Nat):Prop:=Blk x br 72 #[.pointer (some ⟨gr,0,none⟩)]∧Blk x bm 288 #[.pointer (some ⟨gm,0,none⟩)]
theorem Ptrs.r {x:World} {gr gm br bm:Nat} (h:Ptrs x gr gm br bm):x.cell? ⟨br,0,none⟩=some (.pointer (some ⟨gr,0,none⟩)):=h.1.cell 0
theorem Ptrs.m {x:World} {gr gm br bm:Nat} (h:Ptrs x gr gm br bm):x.cell? ⟨bm,0,none⟩=some (.pointer (some ⟨gm,0,none⟩)):=h.2.cell 0
theorem Ptrs.grown {x y:World} {gr gm br bm g:Nat} (h:Ptrs x gr gm br bm) (hg:x.grownBy y (some g)) (h1:g<br) (h2:br<bm):Ptrs y gr gm br bm :=
 ⟨h.1.grown hg (by intro e;injection e with e;omega),h.2.grown hg (by intro e;injection e with e;omega)⟩
theorem Ptrs.below {x y:World} {gr gm br bm:Nat} (h:Ptrs x gr gm br bm) (hb:Below x.heap.size x y):Ptrs y gr gm br bm:=⟨h.1.over hb,h.2.over hb⟩
structure RdSt (w:World) (B gr gm br bm:Nat) (M:Mr) (b:List UInt8):Prop where
 rd:∃ bad,Rd w B gr b bad
 m:Blk w gm 186 (mroC M)
 ptr:Ptrs w gr gm br bm
 W:M.W
 h1:B≤gr
 h2:gr<gm
 h3:gm<br
 h4:br<bm
theorem RdSt.step {w w':World} {B gr gm br bm:Nat} {M:Mr} {b b':List UInt8} (h:RdSt w B gr gm br bm M b) (hg:w.grownBy w' (some gr)) (hr:∃ bad,Rd w' B gr b' bad):RdSt w' B gr gm br bm M b' :=
 ⟨hr,h.m.grown hg (by intro e;injection e with e;have:=h.h2;omega),h.ptr.grown hg (by have:=h.h2;have:=h.h3;omega) h.h4,h.W,h.h1,h.h2,h.h3,h.h4⟩
theorem RdSt.set {w w':World} {B gr gm br bm:Nat} {M M':Mr} {b:List UInt8} (h:RdSt w B gr gm br bm M b) (hg:w.grownBy w' (some gm)) (hm:Blk w' gm 186 (mroC M')) (hW:M'.W):RdSt w' B gr gm br bm M' b:=by
 obtain ⟨bad,hr⟩:=h.rd
 exact ⟨⟨bad,hr.keep hg (fun k hk=>by injection hk with hk;have:=h.h2;omega)⟩,hm,h.ptr.grown hg h.h3 h.h4,hW,h.h1,h.h2,h.h3,h.h4⟩
theorem RdSt.below {w w':World} {B gr gm br bm:Nat} {M:Mr} {b:List UInt8} (h:RdSt w B gr gm br bm M b) (hb:Below w.heap.size w w'):RdSt w' B gr gm br bm M b:=by
 obtain ⟨bad,hr⟩:=h.rd
 exact ⟨⟨bad,hr.below hb hr.lt⟩,h.m.over hb,h.ptr.below hb,h.W,h.h1,h.h2,h.h3,h.h4⟩
def zkM (w:World) (B gr gm br bm:Nat) (M:Mr) (b:List UInt8) (j:Nat) (e:Ending) (w':World):Prop :=
 e = .returned (.tuple #[])∧RdSt w' B gr gm br bm (rdP M b j).1 (rdP M b j).2∧zaF (fun i=>i=gr∨i=gm) w w'
theorem zg8 {w x y:World} {gr gm:Nat} (h:w.grownBy x (some gr)) (k:x.grownBy y (some gm)):zaF (fun i=>i=gr∨i=gm) w y :=
 ((zaF.of_grown h).mono (fun i hi=>by injection hi with hi;exact .inl hi)).trans (zaF.of_grown k) (fun i hi=>by injection hi with hi;exact .inl (.inr hi))
theorem zxR (w:World) (B gr gm br bm:Nat) (M:Mr) (b:List UInt8) (h:RdSt w B gr gm br bm M b) :
  Calls prog 226 #[.pointer (some ⟨br,0,none⟩),.pointer (some ⟨bm,0,none⟩)] w (zkM w B gr gm br bm M b 2):=by
 obtain ⟨bad,hr⟩:=h.rd
 have H:=hD h
 have HR:=hD hr
 have hm3:gm<br:=h.h3
 have hm4:br<bm:=h.h4
 have hm2:gr<gm:=h.h2
 clear h hr
 go_enter func226,ntmps226
 go_wp2_with fail
 refine wp_region_held_drew (S:=fun x=>Ptrs x gr gm br bm) (by kernel_rfl) H.o.ptr (fun hHeld=>?_)
 refine rgK 0 (fun w' hSw=>hSw.m) ?_
 refine rgK 1 (fun w' hSw=>hSw.r) ?_
 refine zal (i:=2) rfl (by kernel_rfl) (by rfl) (zhG _ B gr b _ (HR.o.keep (zaz (zad w none)) (by simp)) H.o.h1) (fun w=>by kernel_rfl) ?_
 rintro e w1 ⟨rfl,hr1,hg1⟩
 have HS:=hD (H.o.step (zan (zaz (zad w _)) hg1) hr1)
 have G1:=hD (zan (zaz (zad w (some gr))) hg1)
 refine ⟨_,rfl,hHeld.grown hg1 (by omega) (by omega),fun hHeld=>?_⟩
 refine rgN ?_
 refine rgT 3 ?_
 refine rgT 4 ?_
 have hl:(rdA b).2.length=16:=zdL _
 have hg2:w1.grownBy (w1.setCells gm 10 (.int .i64 (rdA b).1::bvs (rdA b).2)) (some gm):=zai _ _ _ _ (zad _ _)
 have HS2:=hD (HS.o.set hg2 (zta HS.o.m HS.o.W (rdA b).1 hl) ⟨HS.o.W.rd,hl,HS.o.W.gb,HS.o.W.fb⟩)
 refine zau (i:=5) rfl (by kernel_rfl) (by rfl) (zbx (.tmp 6) (.tmp 4) rfl gm 10 rfl rfl hl (zgG HS.o.m HS.o.W (by decide))) (HS2.o.ptr) (fun hHeld=>?_)
 refine rgN ?_
 refine wpAnyH_done (by kernel_rfl) ?_ _
 go_end0
 exact ⟨rfl,HS2.o,zg8 G1.o hg2⟩
theorem zxQ (w:World) (B gr gm br bm:Nat) (M:Mr) (b:List UInt8) (h:RdSt w B gr gm br bm M b) :
  Calls prog 228 #[.pointer (some ⟨br,0,none⟩),.pointer (some ⟨bm,0,none⟩)] w (zkM w B gr gm br bm M b 3):=by
 obtain ⟨bad,hr⟩:=h.rd
 have H:=hD h
 have HR:=hD hr
 have hm3:gm<br:=h.h3
 have hm4:br<bm:=h.h4
 have hm2:gr<gm:=h.h2
 clear h hr
 go_enter func228,ntmps228
 go_wp2_with fail
 refine wp_region_held_drew (S:=fun x=>Ptrs x gr gm br bm) (by kernel_rfl) H.o.ptr (fun hHeld=>?_)
 refine rgK 0 (fun w' hSw=>hSw.m) ?_
 refine rgK 1 (fun w' hSw=>hSw.r) ?_
 refine zal (i:=2) rfl (by kernel_rfl) (by rfl) (zhG _ B gr b _ (HR.o.keep (zaz (zad w none)) (by simp)) H.o.h1) (fun w=>by kernel_rfl) ?_
 rintro e w1 ⟨rfl,hr1,hg1⟩
 have HS:=hD (H.o.step (zan (zaz (zad w _)) hg1) hr1)
 have G1:=hD (zan (zaz (zad w (some gr))) hg1)
 refine ⟨_,rfl,hHeld.grown hg1 (by omega) (by omega),fun hHeld=>?_⟩
 refine rgN ?_
 refine rgT 3 ?_
 refine rgT 4 ?_
 have hl:(rdA b).2.length=16:=zdL _
 have hg2:w1.grownBy (w1.setCells gm 27 (.int .i64 (rdA b).1::bvs (rdA b).2)) (some gm):=zai _ _ _ _ (zad _ _)
 have HS2:=hD (HS.o.set hg2 (ztc HS.o.m HS.o.W (rdA b).1 hl) ⟨HS.o.W.rd,HS.o.W.sb,hl,HS.o.W.fb⟩)
 refine zau (i:=5) rfl (by kernel_rfl) (by rfl) (zbx (.tmp 6) (.tmp 4) rfl gm 27 rfl rfl hl (zgG HS.o.m HS.o.W (by decide))) (HS2.o.ptr) (fun hHeld=>?_)
 refine rgN ?_
 refine wpAnyH_done (by kernel_rfl) ?_ _
 go_end0
 exact ⟨rfl,HS2.o,zg8 G1.o hg2⟩
theorem zxS (w:World) (B gr gm br bm:Nat) (M:Mr) (b:List UInt8) (h:RdSt w B gr gm br bm M b) :
  Calls prog 225 #[.pointer (some ⟨br,0,none⟩),.pointer (some ⟨bm,0,none⟩)] w (zkM w B gr gm br bm M b 1):=by
 obtain ⟨bad,hr⟩:=h.rd
 have H:=hD h
 have HR:=hD hr
 have hm3:gm<br:=h.h3
 have hm4:br<bm:=h.h4
 have hm2:gr<gm:=h.h2
 clear h hr
 go_enter func225,ntmps225
 go_wp2_with fail
 refine wp_region_held_drew (S:=fun x=>Ptrs x gr gm br bm) (by kernel_rfl) H.o.ptr (fun hHeld=>?_)
 refine rgK 0 (fun w' hSw=>hSw.m) ?_
 refine rgK 1 (fun w' hSw=>hSw.r) ?_
 refine zal (i:=2) rfl (by kernel_rfl) (by rfl) (zaW _ B gr b _ (HR.o.keep (zaz (zad w none)) (by simp)) 4 (by decide)) (fun w=>by kernel_rfl) ?_
 rintro e w1 ⟨rfl,hr1,hg1⟩
 have HS:=hD (H.o.step (zan (zaz (zad w _)) hg1) ⟨_,hr1⟩)
 have G1:=hD (zan (zaz (zad w (some gr))) hg1)
 refine ⟨_,rfl,hHeld.grown hg1 (by omega) (by omega),fun hHeld=>?_⟩
 refine rgN ?_
 refine rgT 3 ?_
 refine rgT 4 ?_
 have hg2:w1.grownBy (w1.setCell ⟨gm,9,none⟩ (.int .i64 ((zap b 4:Nat):Int))) (some gm):=zat (zad _ _) (.inl rfl) _
 have HS2:=hD (HS.o.set hg2 (zte HS.o.m HS.o.W ((zap b 4:Nat):Int)) ⟨HS.o.W.rd,HS.o.W.sb,HS.o.W.gb,HS.o.W.fb⟩)
 refine zau (i:=5) rfl (by kernel_rfl) (by rfl) (zbb 3 (.tmp 6) (.tmp 4) rfl rfl rfl HS.o.m (by rw [zbg HS.o.W];decide) (by kernel_rfl) rfl rfl) (HS2.o.ptr) (fun hHeld=>?_)
 refine rgN ?_
 refine wpAnyH_done (by kernel_rfl) ?_ _
 go_end0
 exact ⟨rfl,HS2.o,zg8 G1.o hg2⟩
theorem zxP (w:World) (B gr gm br bm:Nat) (M:Mr) (b:List UInt8) (h:RdSt w B gr gm br bm M b) :
  Calls prog 229 #[.pointer (some ⟨br,0,none⟩),.pointer (some ⟨bm,0,none⟩)] w (zkM w B gr gm br bm M b 4):=by
 obtain ⟨bad,hr⟩:=h.rd
 have H:=hD h
 have HR:=hD hr
 have hm3:gm<br:=h.h3
 have hm4:br<bm:=h.h4
 have hm2:gr<gm:=h.h2
 clear h hr
 go_enter func229,ntmps229
 go_wp2_with fail
 refine wp_region_held_drew (S:=fun x=>Ptrs x gr gm br bm) (by kernel_rfl) H.o.ptr (fun hHeld=>?_)
 refine rgK 0 (fun w' hSw=>hSw.m) ?_
 refine rgK 1 (fun w' hSw=>hSw.r) ?_
 refine zal (i:=2) rfl (by kernel_rfl) (by rfl) (zn3 _ B gr b _ (HR.o.keep (zaz (zad w none)) (by simp)) H.o.h1) (fun w=>by kernel_rfl) ?_
 rintro e w1 ⟨rfl,hr1,hg1⟩
 have HS:=hD (H.o.step (zan (zaz (zad w _)) hg1) hr1)
 have G1:=hD (zan (zaz (zad w (some gr))) hg1)
 refine ⟨_,rfl,hHeld.grown hg1 (by omega) (by omega),fun hHeld=>?_⟩
 refine rgN ?_
 refine rgT 3 ?_
 refine rgT 4 ?_
 have hg2:w1.grownBy (w1.setCell ⟨gm,61,none⟩ (.string ⟨(rdKy b).toArray⟩)) (some gm):=zat (zad _ _) (.inl rfl) _
 have HS2:=hD (HS.o.set hg2 (ztb HS.o.m HS.o.W (rdKy b)) ⟨HS.o.W.rd,HS.o.W.sb,HS.o.W.gb,HS.o.W.fb⟩)
 refine zau (i:=5) rfl (by kernel_rfl) (by rfl) (zbb 9 (.tmp 6) (.tmp 4) rfl rfl rfl HS.o.m (by rw [zbg HS.o.W];decide) (by kernel_rfl) rfl rfl) (HS2.o.ptr) (fun hHeld=>?_)
 refine rgN ?_
 refine wpAnyH_done (by kernel_rfl) ?_ _
 go_end0
 exact ⟨rfl,HS2.o,zg8 G1.o hg2⟩
theorem zxT (w:World) (B gr gm br bm:Nat) (M:Mr) (b:List UInt8) (h:RdSt w B gr gm br bm M b) (hz:M.rd=zdh) :
  Calls prog 224 #[.pointer (some ⟨bm,0,none⟩),.pointer (some ⟨br,0,none⟩)] w (zkM w B gr gm br bm M b 0):=by
 obtain ⟨bad,hr⟩:=h.rd
 have H:=hD h
 have HR:=hD hr
 have hm3:gm<br:=h.h3
 have hm4:br<bm:=h.h4
 have hm2:gr<gm:=h.h2
 clear h hr
 go_enter func224,ntmps224
 go_wp2_with fail
 refine wp_region_held_drew (S:=fun x=>Ptrs x gr gm br bm) (by kernel_rfl) H.o.ptr (fun hHeld=>?_)
 refine rgK 0 (fun w' hSw=>hSw.m) ?_
 refine rgT 1 ?_
 refine rgT 2 ?_
 refine rgT 3 ?_
 refine rgK 4 (fun w' hSw=>hSw.r) ?_
 refine zal (i:=5) rfl (by kernel_rfl) (by rfl) (zaR _ B gr b _ (HR.o.keep (zaz (zad w none)) (by simp)) 8 (by decide)) (fun w=>by kernel_rfl) ?_
 rintro e w1 ⟨v,rfl,ho1,hr1,hg1⟩
 obtain ⟨A,c,rfl,_,_⟩:=zag ho1
 have HS:=hD (H.o.step (zan (zaz (zad w _)) hg1) ⟨_,hr1⟩)
 have G1:=hD (zan (zaz (zad w (some gr))) hg1)
 refine ⟨_,rfl,hHeld.grown hg1 (by omega) (by omega),fun hHeld=>?_⟩
 refine rgN ?_
 refine zgB (i:=6) rfl (by kernel_rfl) (by rfl) (znh (.tmp 5) (.tmp 7) rfl rfl rfl HS.o.m HS.o.W hz (At.own ho1)) ?_
 rintro v2 w2 ⟨hb2,hg2⟩
 have HS2:=hD (HS.o.set hg2 hb2 ⟨zeG _,HS.o.W.sb,HS.o.W.gb,HS.o.W.fb⟩)
 refine ⟨HS2.o.ptr,fun hHeld=>?_⟩
 refine rgN ?_
 refine wpAnyH_done (by kernel_rfl) ?_ _
 go_end0
 exact ⟨rfl,HS2.o,zg8 G1.o hg2⟩
theorem zxO (w:World) (B gr gm br bm:Nat) (M:Mr) (b:List UInt8) (h:RdSt w B gr gm br bm M b) :
  Calls prog 231 #[.pointer (some ⟨br,0,none⟩),.pointer (some ⟨bm,0,none⟩)] w (zkM w B gr gm br bm M b 5):=by
 obtain ⟨bad,hr⟩:=h.rd
 have H:=hD h
 have HR:=hD hr
 have hm3:gm<br:=h.h3
 have hm4:br<bm:=h.h4
 have hm2:gr<gm:=h.h2
 clear h hr
 go_enter func231,ntmps231
 go_wp2_with fail
 refine wp_region_held_drew (S:=fun x=>Ptrs x gr gm br bm) (by kernel_rfl) H.o.ptr (fun hHeld=>?_)
 have HLN:=hD HR.o.len
 refine rgK 0 (fun w' hSw=>hSw.m) ?_
 refine rgK 1 (fun w' hSw=>hSw.r) ?_
 refine rgK 2 (fun w' hSw=>hSw.r) ?_
 refine rgT 3 ?_
 refine rgT 4 ?_
 refine zal (i:=5) rfl (by kernel_rfl) (by rfl) (Rd.left (HR.o.keep (zaz (zad w none)) (by simp))) (fun w=>by kernel_rfl) ?_
 rintro e w0 ⟨rfl,rfl⟩
 refine ⟨_,rfl,hHeld,fun hHeld=>?_⟩
 refine rgN ?_
 refine zal (i:=6) rfl (by kernel_rfl) (by rfl) (zaR _ B gr b _ (HR.o.keep (zaz (zad w none)) (by simp)) (b.length:Int) (zcA (by have:=HLN.o;omega))) (fun w=>by kernel_rfl) ?_
 rintro e w1 ⟨v,rfl,ho1,hr1,hg1⟩
 obtain ⟨hst,hsr⟩:=ziF (Nat.le_refl b.length)
 rw [List.take_length] at hst
 rw [List.drop_length] at hsr
 rw [hst] at ho1
 rw [hsr] at hr1
 obtain ⟨A,c,rfl,_,_⟩:=zag ho1
 have HS1:=hD (H.o.step (zan (zaz (zad w _)) hg1) ⟨_,hr1⟩)
 have G1:=hD (zan (zaz (zad w (some gr))) hg1)
 refine ⟨_,rfl,hHeld.grown hg1 (by omega) (by omega),fun hHeld=>?_⟩
 refine rgN ?_
 refine zal (i:=7) rfl (by kernel_rfl) (by rfl) (zgF w1 _ _ A _ c b (At.own ho1) lr) (fun w=>by kernel_rfl) ?_
 rintro e w2 ⟨rfl,hb2⟩
 have HS:=hD (HS1.o.below hb2)
 have G2:=hD (zeI G1.o hb2)
 refine ⟨_,rfl,hHeld.below hb2,fun hHeld=>?_⟩
 refine rgN ?_
 refine rgT 8 ?_
 refine rgT 9 ?_
 refine rgT 10 ?_
 refine rgT 11 ?_
 refine rgT 12 ?_
 have hl:(ofB b).length=16:=zdL _
 have hg2:w2.grownBy (w2.setCells gm 44 (.int .i64 (ofS b)::bvs (ofB b))) (some gm):=zai _ _ _ _ (zad _ _)
 have HS2:=hD (HS.o.set hg2 (ztd HS.o.m HS.o.W (ofS b) hl) ⟨HS.o.W.rd,HS.o.W.sb,HS.o.W.gb,hl⟩)
 refine zau (i:=13) rfl (by kernel_rfl) (by rfl) (zbx (.tmp 14) (.tmp 11) rfl gm 44 rfl rfl hl (zgG HS.o.m HS.o.W (by decide))) (HS2.o.ptr) (fun hHeld=>?_)
 refine rgN ?_
 refine wpAnyH_done (by kernel_rfl) ?_ _
 go_end0
 exact ⟨rfl,HS2.o,zg8 G2.o hg2⟩
end
section
open Go.RowKit
def rfC (br bm:Nat):Array Value:=#[.func (.func 224) #[] #[.pointer (some ⟨bm,0,none⟩),.pointer (some ⟨br,0,none⟩)],.func (.func 225) #[] #[.pointer (some ⟨br,0,none⟩),.pointer (some ⟨bm,0,none⟩)],.func (.func 226) #[] #[.pointer (some ⟨br,0,none⟩),.pointer (some ⟨bm,0,none⟩)],.func (.func 228) #[] #[.pointer (some ⟨br,0,none⟩),.pointer (some ⟨bm,0,none⟩)],.func (.func 229) #[] #[.pointer (some ⟨br,0,none⟩),.pointer (some ⟨bm,0,none⟩)],.func (.func 231) #[] #[.pointer (some ⟨br,0,none⟩),.pointer (some ⟨bm,0,none⟩)]]
theorem rf_one (br bm:Nat):(rfC br bm).all (·.oneCell')=true:=by simp [rfC,Value.oneCell']
theorem zxH {fn:Func} {R:Ending→World→Prop} {a:Act} {w:World} {p:Tmp} {g br bm:Nat} {t:TypeId} (hf:fn.results=#[.cell p 286])
  (hp:a.tmps.getD p undef = .pointer (some ⟨g,0,none⟩)) (h:Blk w g t (rfC br bm)) (hd:a.defers=[]) (hR:R (.returned (.agg (rfC br bm))) w) :
  bodyPost prog fn R .ret a w:=by
 refine bodyPost_ret (v:=.agg (rfC br bm)) ?_ hd hR
 have hp':a.tmps[p]?.getD undef = .pointer (some ⟨g,0,none⟩):=by simpa using hp
 have hl:=run_loadVar_row (P:=prog) w g t 286 (rfC br bm) (0,0) _ h underlying286 rfl (by rw [show (rfC br bm).size=6 from rfl];kernel_rfl)
 simp [results,hf,hp',asAddr,hl]
theorem zeZ {ops:Array Oper} {rest:List Oper} {o:Oper} {a:Act} {w:World} {Q:Exit→Act→World→Prop} (hgd:o.guard=none) (x y:Operand) (ho:o.op = .store 286 x y)
  (g:Nat) (hx:a.eval x = .pointer (some ⟨g,0,none⟩)) {br bm:Nat} (hy:a.eval y = .agg (rfC br bm)) {t:TypeId} {old:Array Value} (h:Blk w g t old) (hold:old.size=6)
  (hk:∀ w',Blk w' g t (rfC br bm)→w.grownBy w' (some g)→wpList prog ops Q rest (a.put o.dst undef) w'):wpList prog ops Q (o::rest) a w :=
 wpList_store_row hgd 286 x y ho g (rfC br bm) hx hy t old h (by rw [show (rfC br bm).size=6 from rfl];kernel_rfl) (by rw [show (rfC br bm).size=6 from rfl,hold]) (rf_one br bm) (hk _ (h.setRow _) (zaB _ _ _))
theorem zlg (w:World) (gr gm:Nat):Calls prog 212 #[.pointer (some ⟨gr,0,none⟩),.pointer (some ⟨gm,0,none⟩)] w fun e w' =>
  ∃ br bm,e = .returned (.agg (rfC br bm))∧Ptrs w' gr gm br bm∧w.heap.size≤br∧br<bm∧Below w.heap.size w w':=by
 have HR:=hD (((Blk.new w 72 #[.pointer (some ⟨gr,0,none⟩)]).alloc (.cells #[.pointer (some ⟨gm,0,none⟩)] 288)).alloc (.cells #[.nilFunc,.nilFunc,.nilFunc,.nilFunc,.nilFunc,.nilFunc] 286))
 have HM:=hD ((zdf w (.cells #[.pointer (some ⟨gr,0,none⟩)] 72) 288 #[.pointer (some ⟨gm,0,none⟩)]).alloc (.cells #[.nilFunc,.nilFunc,.nilFunc,.nilFunc,.nilFunc,.nilFunc] 286))
 have HN:Hid (Blk (((w.alloc (.cells #[.pointer (some ⟨gr,0,none⟩)] 72)).alloc (.cells #[.pointer (some ⟨gm,0,none⟩)] 288)).alloc (.cells #[.nilFunc,.nilFunc,.nilFunc,.nilFunc,.nilFunc,.nilFunc] 286)) (w.heap.size+2) 286 #[.nilFunc,.nilFunc,.nilFunc,.nilFunc,.nilFunc,.nilFunc]):=hD (by
  have:=Blk.new ((w.alloc (.cells #[.pointer (some ⟨gr,0,none⟩)] 72)).alloc (.cells #[.pointer (some ⟨gm,0,none⟩)] 288)) 286 #[.nilFunc,.nilFunc,.nilFunc,.nilFunc,.nilFunc,.nilFunc]
  simpa using this)
 have W0:=hD ((((Below.refl w.heap.size w).alloc lr (.cells #[.pointer (some ⟨gr,0,none⟩)] 72)).alloc (by simp) (.cells #[.pointer (some ⟨gm,0,none⟩)] 288)).alloc (by simp;omega) (.cells #[.nilFunc,.nilFunc,.nilFunc,.nilFunc,.nilFunc,.nilFunc] 286))
 go_enter func212,ntmps212
 go_wp2_with (refine zeZ rfl (.tmp 4) (.tmp 11) rfl (w.heap.size+2) rfl (br:=w.heap.size) (bm:=w.heap.size+1) rfl HN.o rfl ?_;intro w2 hb2 hg2;have HB2:=hD hb2;have HG2:=hD hg2;clear hb2 hg2;refine Hid.o ?_)
 refine hD ?_
 go_wp2
 refine zxH (p:=4) (g:=w.heap.size+2) (t:=286) rfl rfl HB2.o rfl ⟨_,_,rfl,⟨HR.o.grown HG2.o (by simp),HM.o.grown HG2.o (by simp)⟩,lr,Nat.lt_succ_self _,?_⟩
 exact W0.o.grown HG2.o (by simp;omega) (by simp)
theorem zkL:mroC (zc3 0)=zMro:=rfl
theorem zpg {fn:Func} {R:Ending→World→Prop} {a:Act} {w:World} {p:Tmp} {g:Nat} {t:TypeId} {m:Mr} (hf:fn.results=#[.cell p 186])
  (hp:a.tmps.getD p undef = .pointer (some ⟨g,0,none⟩)) (h:Blk w g t (mroC m)) (hm:m.W) (hd:a.defers=[]) (hR:R (.returned (.agg (mroC m))) w) :
  bodyPost prog fn R .ret a w:=by
 refine bodyPost_ret (v:=.agg (mroC m)) ?_ hd hR
 have hp':a.tmps[p]?.getD undef = .pointer (some ⟨g,0,none⟩):=by simpa using hp
 simp [results,hf,hp',asAddr,zig h hm]
theorem rdK_no {k:Int} {b:List UInt8} {j:Nat} (h:(za6 k).getD j false=false):rdK k b (j+1)=rdK k b j:=by rw [rdK,h];simp
theorem zxL {k:Int} {b:List UInt8} {j:Nat} (h:(za6 k).getD j false=true):rdK k b (j+1)=rdP (rdK k b j).1 (rdK k b j).2 j:=by rw [rdK,h];simp
theorem zrm (k:Int):prog.built 186 [(0,.int .i64 k)]=some (mroC (zc3 k)):=by kernel_rfl
theorem zg3 {ops:Array Oper} {rest:List Oper} {o:Oper} {a:Act} {w:World} {Q:Exit→Act→World→Prop} (hgd:o.guard=none) (x:Operand) (ho:o.op = .build 186 #[(0,x)]) (k:Int) (hx:a.eval x = .int .i64 k)
  (hk:wpList prog ops Q rest (a.put o.dst (.agg (mroC (zc3 k)))) w):wpList prog ops Q (o::rest) a w:=by
 refine wpList_plain hgd fun K hK'=>?_
 unfold Oper.wp execOp
 simp only [ho,List.map_toArray,List.map_cons,List.map_nil,hx,Sem.run_bind,run_build w _ _ _ (zrm k),Result.andThen_ok,Sem.run_pure]
 exact hK' _ _ hk
theorem zbS (k:Int):(zc3 k).W:=⟨rfl,rfl,rfl,rfl⟩
set_option maxRecDepth 20000 in
set_option maxHeartbeats 4000000 in
theorem zgh (w:World) (lo hi:Nat) (A:Option Addr) (n c:Nat) (b:List UInt8) (h:At w lo hi A n b) (hh:hi≤w.heap.size) (hn:n≤140737488355328) (hN:za1 w) :
  Calls prog 199 #[.slice A n c] w fun e w'=>e = .returned (.agg (mroC (zbR b)))∧Below w.heap.size w w':=by
 have HA:=hD (h.alloc hh (.cells zMro 186))
 have HRES:Hid (Blk (w.alloc (.cells zMro 186)) w.heap.size 186 (mroC (zc3 0))):=hD (by rw [zkL];exact Blk.new w _ _)
 have W0:=hD ((Below.refl w.heap.size w).alloc lr (.cells zMro 186))
 have hs0:(w.alloc (.cells zMro 186)).heap.size=w.heap.size+1:=by simp
 have HN:=hD hN
 clear h hN
 go_enter func199,ntmps199
 go_wp2_with fail
 generalize hw0:w.alloc (.cells zMro 186)=w0 at HA HRES W0 hs0 ⊢
 clear hw0
 refine (zbw w0 lo hi A n c b HA.o (by omega) hn).mono ?_
 rintro e w1 ⟨gr,rfl,hgr,hr1,hb1⟩
 generalize hB:w0.heap.size=B at hgr hr1 hs0
 have R1:=hD hr1
 have RES1:=hD (HRES.o.over hb1)
 have W1:=hD (zaa W0.o hb1 lr)
 have hgr1:w.heap.size<gr:=by omega
 have hlt1:=hr1.lt
 clear hr1 hb1 hB HA HRES W0
 go_wp2_with fail
 refine (zaW _ B gr b false R1.o 1 (by decide)).mono ?_
 rintro e w2 ⟨rfl,hr2,hg2⟩
 have R2:=hD hr2
 have RES2:=hD (RES1.o.grown hg2 (by intro e;injection e with e;omega))
 have W2:=hD (W1.o.grown hg2 W1.o.size (fun g hg=>by injection hg with hg;omega))
 have hs2:=hg2.size
 clear hr2 hg2
 generalize hk:((zap b 1:Nat):Int)=k
 have HK:=hD hk
 clear hk
 have NEW:=hD (Blk.new w2 186 zMro)
 go_wp2_with (first
  | (with_reducible refine zg3 rfl (.tmp 11) rfl k rfl ?_)
  | (refine zar rfl (.tmp 4) (.tmp 12) rfl w2.heap.size rfl (m:=zc3 k) rfl (zbS k) NEW.o rfl ?_;intro w3 hb3 hg3;have M3:=hD hb3;have W23:Hid (Below w2.heap.size w2 w3):=hD (((Below.refl _ _).alloc lr _).grown hg3 (by simp) (by simp));clear hb3 hg3;refine Hid.o ?_))
 refine hD ?_
 clear NEW
 have R3:=hD (R2.o.below W23.o R2.o.lt)
 have RES3:=hD (RES2.o.over W23.o)
 have W3:=hD (zaa W2.o W23.o lr)
 have hm3:=M3.o.lt
 have hs23:=W23.o.size
 go_wp2_with fail
 refine (zaW _ B gr _ _ R3.o 1 (by decide)).mono ?_
 rintro e w4 ⟨rfl,hr4,hg4⟩
 have R4:=hD hr4
 have RES4:=hD (RES3.o.grown hg4 (by intro e;injection e with e;omega))
 have M4:=hD (M3.o.grown hg4 (by intro e;injection e with e;omega))
 have W4:=hD (W3.o.grown hg4 W3.o.size (fun g hg=>by injection hg with hg;omega))
 have hs4:=hg4.size
 clear hr4 hg4
 generalize hb2:zaf (zaf b 1) 1=b2 at R4
 have HB2:=hD hb2
 clear hb2
 go_wp2_with fail
 refine (zlg w4 gr w2.heap.size).mono ?_
 rintro e w5 ⟨br,bm,rfl,hp5,hbr,hbm,hb5⟩
 have R5:=hD (R4.o.below hb5 R4.o.lt)
 have RES5:=hD (RES4.o.over hb5)
 have M5:=hD (M4.o.over hb5)
 have W5:=hD (zaa W4.o hb5 lr)
 have P5:=hD hp5
 have hs5:=hb5.size
 have hbm5:bm<w5.heap.size:=hp5.2.lt
 clear hp5 hb5
 have NEW:=hD (Blk.new w5 286 #[.nilFunc,.nilFunc,.nilFunc,.nilFunc,.nilFunc,.nilFunc])
 go_wp2_with (refine zeZ rfl (.tmp 5) (.tmp 16) rfl w5.heap.size rfl (br:=br) (bm:=bm) rfl NEW.o rfl ?_;intro w6 hb6 hg6;have F6:=hD hb6;have W56:Hid (Below w5.heap.size w5 w6):=hD (((Below.refl _ _).alloc lr _).grown hg6 (by simp) (by simp));clear hb6 hg6;refine Hid.o ?_)
 refine hD ?_
 clear NEW
 have RES6:=hD (RES5.o.over W56.o)
 have W6:=hD (zaa W5.o W56.o lr)
 have S6:Hid (RdSt w6 B gr w2.heap.size br bm (zc3 k) b2):=hD ⟨⟨_,R5.o.below W56.o R5.o.lt⟩,M5.o.over W56.o,P5.o.below W56.o,zbS k,hgr,by omega,by omega,hbm⟩
 have k0:=(S6.o.m.cell 0).trans zfb
 have hf6:=F6.o.lt
 have N6:=hD (HN.o.below W6.o)
 go_wp2_with fail
 refine (zb3 w6 k N6.o).mono ?_
 rintro e w7 ⟨rfl,hb7⟩
 have S7:=hD (S6.o.below hb7)
 have RES7:=hD (RES6.o.over hb7)
 have F7:=hD (F6.o.over hb7)
 have W7:=hD (zaa W6.o hb7 lr)
 have hs7:=hb7.size
 clear hb7 k0
 have hgm:w2.heap.size<w6.heap.size:=by omega
 generalize hgmv:w2.heap.size=gm at *
 generalize hgav:w5.heap.size=ga at *
 clear hgmv hgav
 go_wp2_with fail
 go_loopw [20] (fun i wr=>∃ j:Nat,j≤6∧i = .int .i64 j∧RdSt wr B gr gm br bm (rdK k b2 j).1 (rdK k b2 j).2∧Blk wr w.heap.size 186 (mroC (zc3 0))∧Blk wr ga 286 (rfC br bm)∧Below w.heap.size w wr) (fun i _=>6-(intOf i).toNat)
 case atStart=>exact ⟨0,by omega,rfl,S7.o,RES7.o,F7.o,W7.o⟩
 case round =>
  obtain ⟨j,hj,rfl,hS,hres,hf,hw⟩:=hrel
  have SR:=hD hS
  have RESR:=hD hres
  have FR:=hD hf
  have WR:=hD hw
  have hsr:=hw.size
  clear hS hres hf hw
  by_cases h6:j=6
  ·subst h6
   have HE:Hid (zbR b=(rdK k b2 6).1):=hD (by unfold zbR;rw [HB2.o,HK.o])
   go_wp2_with (first
    | (with_reducible refine zaA rfl (.tmp 4) rfl gm rfl SR.o.m SR.o.W ?_)
    | (refine zar rfl (.tmp 2) (.tmp 30) rfl w.heap.size rfl (m:=(rdK k b2 6).1) rfl SR.o.W RESR.o (zbg (zbS 0)) ?_;intro w9 hb9 hg9;have M9:=hD hb9;have HG9:=hD hg9;clear hb9 hg9;refine Hid.o ?_))
   refine hD ?_
   go_wp2
   refine zpg (p:=2) rfl rfl M9.o SR.o.W rfl ?_
   rw [HE.o]
   exact ⟨rfl,WR.o.grown HG9.o hsr (by simp)⟩
  ·have hjI:(j:Int)<6:=by omega
   cases hp:(za6 k).getD j false
   ·have HP:=hD hp
    clear hp
    go_wp2_with (with_reducible refine zaU rfl (.tmp 19) (.tmp 20) rfl k j (by omega) rfl rfl _ HP.o ?_)
    go_roundw
    case rel=>exact ⟨j+1,by omega,by go_num,by rw [rdK_no HP.o];exact SR.o,RESR.o,FR.o,WR.o⟩
    case measure=>simp [intOf];omega
   ·have HP:=hD hp
    have hf0:wr.cell? ⟨ga,0,none⟩=some (.func (.func 224) #[] #[.pointer (some ⟨bm,0,none⟩),.pointer (some ⟨br,0,none⟩)]):=(FR.o.cell 0).trans rfl
    have hf1:wr.cell? ⟨ga,1,none⟩=some (.func (.func 225) #[] #[.pointer (some ⟨br,0,none⟩),.pointer (some ⟨bm,0,none⟩)]):=(FR.o.cell 1).trans rfl
    have hf2:wr.cell? ⟨ga,2,none⟩=some (.func (.func 226) #[] #[.pointer (some ⟨br,0,none⟩),.pointer (some ⟨bm,0,none⟩)]):=(FR.o.cell 2).trans rfl
    have hf3:wr.cell? ⟨ga,3,none⟩=some (.func (.func 228) #[] #[.pointer (some ⟨br,0,none⟩),.pointer (some ⟨bm,0,none⟩)]):=(FR.o.cell 3).trans rfl
    have hf4:wr.cell? ⟨ga,4,none⟩=some (.func (.func 229) #[] #[.pointer (some ⟨br,0,none⟩),.pointer (some ⟨bm,0,none⟩)]):=(FR.o.cell 4).trans rfl
    have hf5:wr.cell? ⟨ga,5,none⟩=some (.func (.func 231) #[] #[.pointer (some ⟨br,0,none⟩),.pointer (some ⟨bm,0,none⟩)]):=(FR.o.cell 5).trans rfl
    clear hp
    rcases (show j=0∨j=1∨j=2∨j=3∨j=4∨j=5 by omega) with rfl | rfl | rfl | rfl | rfl | rfl
    all_goals
     clear h6 hjI hj
     go_wp2_with (with_reducible refine zeS HP.o rfl (.tmp 19) (.tmp 20) rfl (by omega) rfl rfl ?_)
     first
      | refine (zxT wr B gr gm br bm _ _ SR.o rfl).mono ?_
      | refine (zxS wr B gr gm br bm _ _ SR.o).mono ?_
      | refine (zxR wr B gr gm br bm _ _ SR.o).mono ?_
      | refine (zxQ wr B gr gm br bm _ _ SR.o).mono ?_
      | refine (zxP wr B gr gm br bm _ _ SR.o).mono ?_
      | refine (zxO wr B gr gm br bm _ _ SR.o).mono ?_
     rintro e w8 ⟨rfl,hS8,hT8⟩
     rw [← zxL HP.o] at hS8
     have S8:=hD hS8
     have RES8:=hD (hT8.blk RESR.o (by omega))
     have F8:=hD (hT8.blk FR.o (by omega))
     have W8:=hD (WR.o.trans (hT8.to_below hsr (fun i hi=>by omega)))
     clear hS8 hT8 hf0 hf1 hf2 hf3 hf4 hf5
     go_wp2
     go_roundw
     case rel=>refine ⟨_,?_,?_,S8.o,RES8.o,F8.o,W8.o⟩ <;> first | omega | rfl | go_num
     case measure=>simp [intOf]
end
end Go.Proofs.YtplpglfjcieloaaGreatDoor
