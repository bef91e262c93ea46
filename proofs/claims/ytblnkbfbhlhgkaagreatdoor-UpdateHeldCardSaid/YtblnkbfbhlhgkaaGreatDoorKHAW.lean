/-
  What readBits, readKey, readersOf and its closures of package mroute do, in whatever memory. No condition.
-/
import Derived.Test.YtblnkbfbhlhgkaaGreatDoorKHAV
set_option linter.unusedVariables false
set_option linter.unusedSimpArgs false
namespace Go.Proofs.YtblnkbfbhlhgkaaGreatDoor
section
set_option maxRecDepth 20000
open Go.RowKit
theorem zcG {n:Nat} (h:n<9223372036854775808):(Lit.int .i64 (n:Int)).wf=true:=WalkArith.wf_i64 (by omega)
set_option maxHeartbeats 1000000 in
theorem zhB (w:World) (B gr:Nat) (b:List UInt8) (bad:Bool) (h:Rd w B gr b bad) (hB:B≤gr) :
  Calls Tryz.prog 253 #[.pointer (some ⟨gr,0,none⟩)] w fun e w'=>e = .returned (.agg (zar (rdA b).1 (rdA b).2))∧(∃ bad',Rd w' B gr (rdAr b) bad')∧w.grownBy w' (some gr):=by
 have hlt:=h.lt
 have HR:=hide (h.keep (zaV (zae w none) (.cells zAdr 25)) (by simp))
 have HN:=hide (Blk.new w 25 zAdr)
 have G0:=hide (zaV (zae w (some gr)) (.cells zAdr 25))
 have HV1:=hide (zek b)
 have HL:=hide (zdT (zab (zai b 1) ((zau b 1/8:Nat):Int)))
 have HE:Hid (rdA b=(ofS (zab (zai b 1) ((zau b 1/8:Nat):Int)),ofB (zab (zai b 1) ((zau b 1/8:Nat):Int)))):=hide rfl
 have HER:Hid (rdAr b=zad (zai b 1) ((zau b 1/8:Nat):Int)):=hide rfl
 clear h
 go_enter Tryz.func253,Tryz.ntmps253
 go_wp2_with fail
 refine (zbP _ B gr b bad HR.out 1 (by decide)).mono ?_
 rintro e w1 ⟨rfl,hr1,hg1⟩
 have R1:=hide hr1
 have G1:=hide (zaj G0.out hg1)
 have N1:=hide (HN.out.grown hg1 (by intro e;injection e with e;omega))
 clear hr1 hg1
 generalize hn:zau b 1=n at *
 have hn2:=HV1.out
 have hq:((n:Int)/8)=((n/8:Nat):Int):=by omega
 generalize hq8:n/8=q at *
 have hq2:q<256:=by omega
 have HQ:=hide hq
 clear hq hn hq8
 go_wp2_with fail
 rw [HQ.out]
 refine (zaP _ B gr _ _ R1.out (q:Int) (zcG (by omega))).mono ?_
 rintro e w2 ⟨v,rfl,ho2,hr2,hg2⟩
 obtain ⟨A,c,rfl,_,_⟩:=zac ho2
 have HA:=hide (At.own ho2)
 have R2:=hide hr2
 have G2:=hide (zaj G1.out hg2)
 have N2:=hide (N1.out.grown hg2 (by intro e;injection e with e;omega))
 have hs2:=G2.out.size
 clear ho2 hr2 hg2
 go_wp2_with fail
 refine (zeT w2 _ _ A _ c _ HA.out (Nat.le_refl _)).mono ?_
 rintro e w3 ⟨rfl,hb3⟩
 have R3:=hide (R2.out.below hb3 (by omega))
 have G3:=hide (zeF G2.out hb3)
 have N3:=hide (N2.out.over hb3)
 have M3:=hide (Blk.new w3 25 zAdr)
 clear hb3
 go_wp2_with (refine zat rfl (.tmp 3) (.tmp 12) rfl w3.heap.size rfl (s:=ofS (zab (zai b 1) (q:Int))) (bs:=ofB (zab (zai b 1) (q:Int))) rfl HL.out M3.out rfl ?_;intro w4 hb4 hg4;have HB4:=hide hb4;have W4:Hid (Below w3.heap.size w3 w4):=hide (((Below.refl _ _).alloc (Nat.le_refl _) _).grown hg4 (by simp) (by simp));clear hb4 hg4;refine Hid.out ?_)
 refine hide ?_
 have N4:=hide (N3.out.over W4.out)
 have R4:=hide (R3.out.below W4.out (by have:=G3.out.size;omega))
 have G4:=hide (zeF G3.out W4.out)
 go_wp2_with (first
  | (with_reducible refine zaF rfl (.tmp 3) rfl w3.heap.size rfl HB4.out HL.out ?_)
  | (refine zat rfl (.tmp 2) (.tmp 14) rfl w.heap.size rfl (s:=ofS (zab (zai b 1) (q:Int))) (bs:=ofB (zab (zai b 1) (q:Int))) rfl HL.out N4.out rfl ?_;intro w5 hb5 hg5;have HB5:=hide hb5;have HG5:=hide hg5;clear hb5 hg5;refine Hid.out ?_))
 refine hide ?_
 go_wp2
 refine zlQ (p:=2) rfl rfl HB5.out HL.out rfl ?_
 rw [HE.out,HER.out]
 refine ⟨rfl,⟨_,R4.out.keep HG5.out (fun k hk=>by injection hk with hk;omega)⟩,?_⟩
 exact ⟨HG5.out.os.trans G4.out.os,HG5.out.tape.trans G4.out.tape,HG5.out.output.trans G4.out.output,Nat.le_trans G4.out.size HG5.out.size,fun i hi hne=>(HG5.out.block i (Nat.lt_of_lt_of_le hi G4.out.size) (by intro e;injection e with e;omega)).trans (G4.out.block i hi hne)⟩
theorem zwR (w:World) (x y:UInt8):At (w.alloc (.cells #[.int .u8 (x.toNat:Int),.int .u8 (y.toNat:Int)] 5)) w.heap.size (w.heap.size+1) (some ⟨w.heap.size,0,none⟩) 2 [x,y]:=by
 have hb:=Blk.new w 5 #[.int .u8 (x.toNat:Int),.int .u8 (y.toNat:Int)]
 refine ⟨rfl,fun _=>⟨_,0,rfl,Nat.le_refl _,by omega,fun j u hu=>?_⟩⟩
 rw [Nat.zero_add,hb.cell j]
 match j,hu with
 | 0,hu=>simp at hu;subst hu;rfl
 | 1,hu=>simp at hu;subst hu;rfl
theorem zhK {o:Oper} {a:Act} {w:World} (x y:Operand) (ho:o.op = .binOp .add 9 x y 9) {s r:List UInt8} (hx:a.eval x = .string ⟨s.toArray⟩) (hy:a.eval y = .string ⟨r.toArray⟩)
  (hl:s.length+r.length≤9223372036854775807):(execOp a.eval o).run Tryz.prog w = .ok (.value (.string ⟨(s++r).toArray⟩)) w:=by
 have h:=run_string_add_sum (P:=Tryz.prog) (w:=w) ⟨s.toArray⟩ ⟨r.toArray⟩ (by simpa [ByteArray.size] using hl)
 have e:(⟨s.toArray⟩:ByteArray)++⟨r.toArray⟩=⟨(s++r).toArray⟩:=by
  apply ByteArray.ext
  simp
 rw [e] at h
 unfold execOp
 simp [ho,hx,hy,binOp,h,Result.andThen,eqGuard]
theorem zhv (b:List UInt8) (m:Nat):(zab b (m:Int)).length≤m:=by
 unfold zab
 split
 ·rw [List.length_take];simp;omega
 ·simp
theorem zm1 (w:World) (B gr:Nat) (b:List UInt8) (bad:Bool) (h:Rd w B gr b bad) (hB:B≤gr) :
  Calls Tryz.prog 256 #[.pointer (some ⟨gr,0,none⟩)] w fun e w'=>e = .returned (.string ⟨(rdKy b).toArray⟩)∧(∃ bad',Rd w' B gr (rdKr b) bad')∧w.grownBy w' (some gr):=by
 have hlt:=h.lt
 have HR:=hide h
 have HV1:=hide (zek b)
 have HV2:=hide (zek (zai b 1))
 clear h
 go_enter Tryz.func256,Tryz.ntmps256
 go_wp2_with fail
 refine (zbP _ B gr b bad HR.out 1 (by decide)).mono ?_
 rintro e w1 ⟨rfl,hr1,hg1⟩
 have R1:=hide hr1
 have G1:=hide hg1
 clear hr1 hg1
 go_wp2_with fail
 refine (zbP _ B gr _ _ R1.out 1 (by decide)).mono ?_
 rintro e w2 ⟨rfl,hr2,hg2⟩
 have R2:=hide hr2
 have G2:=hide (zaj G1.out hg2)
 clear hr2 hg2
 have HEK:Hid (rdKy b=[UInt8.ofNat (zau b 1),UInt8.ofNat (zau (zai b 1) 1)]++zab (zai (zai b 1) 1) (zau (zai b 1) 1:Nat)):=hide rfl
 have HER:Hid (rdKr b=zad (zai (zai b 1) 1) (zau (zai b 1) 1:Nat)):=hide rfl
 generalize hn:zau b 1=n at *
 generalize hm:zau (zai b 1) 1=m at *
 have hn2:=HV1.out
 have hm2:=HV2.out
 clear hn hm
 go_wp2_with fail
 refine wp_region_held_drew (S:=fun x=>w2.grownBy x (some gr)) (by kernel_rfl) (zaI (zae w2 _)) (fun hHeld=>?_)
 refine rgT 0 ?_
 refine rgT 1 ?_
 refine rgT 2 ?_
 refine rgT 3 ?_
 refine rgT 6 ?_
 refine rgT 7 ?_
 have AN:Hid (∀ x:World,x.heap.size=w2.heap.size∨True→At (x.alloc (.cells #[.int .u8 (IntKind.u8.wrap (n:Int)),.int .u8 (IntKind.u8.wrap (m:Int))] 5)) x.heap.size (x.heap.size+1) (some ⟨x.heap.size,0,none⟩) 2 [UInt8.ofNat n,UInt8.ofNat m]):=hide (fun x _=>by
  rw [zu1,zu1]
  exact zwR x _ _)
 have hL:=zhv (zai (zai b 1) 1) m
 refine zdc (w1:=w2.drew.alloc (.cells #[.int .u8 (IntKind.u8.wrap (n:Int)),.int .u8 (IntKind.u8.wrap (m:Int))] 5)) (i:=8) (j:=4) (v:=.slice (some ⟨w2.heap.size,0,none⟩) 2 2) rfl rfl (by kernel_rfl) (by rfl) (by rfl) (zaP _ B gr _ _ (R2.out.keep (zaI (zae w2 none)) (by simp)) (m:Int) (zcG (by omega))) (fun w=>by kernel_rfl) ?_ (zaV hHeld _) (fun hHeld=>?_) ?_
 ·(go_simp <;> with_reducible rfl)
 ·refine rgN ?_
  have A1:=AN.out w2.drew (.inr trivial)
  have R3:=hide ((R2.out.keep (zaI (zae w2 none)) (by simp)).keep (zaV (zae w2.drew none) (.cells #[.int .u8 (IntKind.u8.wrap (n:Int)),.int .u8 (IntKind.u8.wrap (m:Int))] 5)) (by simp))
  have hgl:gr<w2.heap.size:=R2.out.lt
  refine zdM (S':=fun x=>w2.grownBy x (some gr)∧At x w2.heap.size (w2.heap.size+1) (some ⟨w2.heap.size,0,none⟩) 2 [UInt8.ofNat n,UInt8.ofNat m]) (fun _ h=>h.1) _ _ _ _ ?_
  have hHeld:=And.intro hHeld A1
  refine rgV 5 (.string ⟨[UInt8.ofNat n,UInt8.ofNat m].toArray⟩) ?_ ?_
  ·(intro w' hSw;exact zeo rfl rfl (At.text hSw.2 36 5 Tryz.underlying36 Tryz.underlying5 _ 9 Tryz.underlying9))
  refine zaf (i:=8) rfl (by kernel_rfl) (by rfl) (zaP _ B gr _ _ R3.out (m:Int) (zcG (by omega))) (fun w=>by kernel_rfl) ?_
  rintro e w3 ⟨v,rfl,ho3,hr3,hg3⟩
  obtain ⟨A,c,rfl,_,_⟩:=zac ho3
  have R4:=hide hr3
  have HA:=At.own ho3
  have hds:w2.drew.heap.size=w2.heap.size:=rfl
  have hds:w2.drew.heap.size=w2.heap.size:=rfl
  have hds:w2.drew.heap.size=w2.heap.size:=rfl
  have hds:w2.drew.heap.size=w2.heap.size:=rfl
  have hds:w2.drew.heap.size=w2.heap.size:=rfl
  have hk3:=hHeld.2.grown hg3 (by simp) (by intro g hg;injection hg with hg;omega)
  refine ⟨_,rfl,⟨zaj hHeld.1 hg3,hk3⟩,fun hHeld=>?_⟩
  refine rgN ?_
  refine zdM (S':=fun x=>(w2.grownBy x (some gr)∧At x w2.heap.size (w2.heap.size+1) (some ⟨w2.heap.size,0,none⟩) 2 [UInt8.ofNat n,UInt8.ofNat m])∧At x (w2.drew.alloc (.cells #[.int .u8 (IntKind.u8.wrap (n:Int)),.int .u8 (IntKind.u8.wrap (m:Int))] 5)).heap.size w3.heap.size A (zab (zai (zai b 1) 1) (m:Int)).length (zab (zai (zai b 1) 1) (m:Int))) (fun x h=>h.1) _ _ _ _ ?_
  have hHeld:=And.intro hHeld HA
  refine rgV 9 (.string ⟨(zab (zai (zai b 1) 1) (m:Int)).toArray⟩) ?_ ?_
  ·(intro w' hSw;exact zeo rfl rfl (At.text hSw.2 36 5 Tryz.underlying36 Tryz.underlying5 _ 9 Tryz.underlying9))
  refine rgV 10 (.string ⟨([UInt8.ofNat n,UInt8.ofNat m]++zab (zai (zai b 1) 1) (m:Int)).toArray⟩) ?_ ?_
  ·(intro w' hSw;exact zhK (.tmp 14) (.tmp 18) rfl rfl rfl (by simp;omega))
  refine rgT 11 ?_
  have GF:=hide hHeld.1.1
  refine wpAnyH_done (by kernel_rfl) ?_ _
  go_wp2
  go_ret
  rw [HEK.out,HER.out]
  refine ⟨rfl,⟨_,R4.out⟩,zaj G2.out GF.out⟩
 ·rintro e w3 ⟨v,rfl,ho3,hr3,hg3⟩
  obtain ⟨A,c,rfl,_,_⟩:=zac ho3
  have HA:=At.own ho3
  have hg3':w2.grownBy w3 (some gr):=zaj (zaI (zae w2 _)) hg3
  have hgl:gr<w2.heap.size:=R2.out.lt
  refine ⟨_,rfl,hg3',fun hHeld=>?_⟩
  refine rgN ?_
  refine zdM (S':=fun x=>w2.grownBy x (some gr)∧At x w2.drew.heap.size w3.heap.size A (zab (zai (zai b 1) 1) (m:Int)).length (zab (zai (zai b 1) 1) (m:Int))) (fun x h=>h.1) _ _ _ _ ?_
  have hHeld:=And.intro hHeld HA
  refine rgV 9 (.string ⟨(zab (zai (zai b 1) 1) (m:Int)).toArray⟩) ?_ ?_
  ·(intro w' hSw;exact zeo rfl rfl (At.text hSw.2 36 5 Tryz.underlying36 Tryz.underlying5 _ 9 Tryz.underlying9))
  refine zaB (w':=w3.alloc (.cells #[.int .u8 (IntKind.u8.wrap (n:Int)),.int .u8 (IntKind.u8.wrap (m:Int))] 5)) (i:=4) (v:=.slice (some ⟨w3.heap.size,0,none⟩) 2 2) rfl (by kernel_rfl) (by rfl) ?_ ⟨zaV hHeld.1 _,hHeld.2.alloc (Nat.le_refl _) _⟩ (fun hHeld=>?_)
  ·(go_simp <;> with_reducible rfl)
  refine rgN ?_
  have R4:=hide (hr3.keep (zaV (zae w3 none) (.cells #[.int .u8 (IntKind.u8.wrap (n:Int)),.int .u8 (IntKind.u8.wrap (m:Int))] 5)) (by simp))
  have A4:=AN.out w3 (.inr trivial)
  refine zdM (S':=fun x=>(w2.grownBy x (some gr)∧At x w2.drew.heap.size w3.heap.size A (zab (zai (zai b 1) 1) (m:Int)).length (zab (zai (zai b 1) 1) (m:Int)))∧At x w3.heap.size (w3.heap.size+1) (some ⟨w3.heap.size,0,none⟩) 2 [UInt8.ofNat n,UInt8.ofNat m]) (fun x h=>h.1) _ _ _ _ ?_
  have hHeld:=And.intro hHeld A4
  refine rgV 5 (.string ⟨[UInt8.ofNat n,UInt8.ofNat m].toArray⟩) ?_ ?_
  ·(intro w' hSw;exact zeo rfl rfl (At.text hSw.2 36 5 Tryz.underlying36 Tryz.underlying5 _ 9 Tryz.underlying9))
  refine rgV 10 (.string ⟨([UInt8.ofNat n,UInt8.ofNat m]++zab (zai (zai b 1) 1) (m:Int)).toArray⟩) ?_ ?_
  ·(intro w' hSw;exact zhK (.tmp 14) (.tmp 18) rfl rfl rfl (by simp;omega))
  refine rgT 11 ?_
  have GF:=hide hHeld.1.1
  refine wpAnyH_done (by kernel_rfl) ?_ _
  go_wp2
  go_ret
  rw [HEK.out,HER.out]
  refine ⟨rfl,⟨_,R4.out⟩,zaj G2.out GF.out⟩
def Ptrs (x:World) (gr gm br bm:Nat):Prop:=Blk x br 126 #[.pointer (some ⟨gr,0,none⟩)]∧Blk x bm 255 #[.pointer (some ⟨gm,0,none⟩)]
theorem Ptrs.r {x:World} {gr gm br bm:Nat} (h:Ptrs x gr gm br bm):x.cell? ⟨br,0,none⟩=some (.pointer (some ⟨gr,0,none⟩)):=h.1.cell 0
theorem Ptrs.m {x:World} {gr gm br bm:Nat} (h:Ptrs x gr gm br bm):x.cell? ⟨bm,0,none⟩=some (.pointer (some ⟨gm,0,none⟩)):=h.2.cell 0
theorem Ptrs.grown {x y:World} {gr gm br bm g:Nat} (h:Ptrs x gr gm br bm) (hg:x.grownBy y (some g)) (h1:g<br) (h2:br<bm):Ptrs y gr gm br bm :=
 ⟨h.1.grown hg (by intro e;injection e with e;omega),h.2.grown hg (by intro e;injection e with e;omega)⟩
theorem Ptrs.below {x y:World} {gr gm br bm:Nat} (h:Ptrs x gr gm br bm) (hb:Below x.heap.size x y):Ptrs y gr gm br bm:=⟨h.1.over hb,h.2.over hb⟩
structure RdSt (w:World) (B gr gm br bm:Nat) (M:Mr) (b:List UInt8):Prop where
 rd:∃ bad,Rd w B gr b bad
 m:Blk w gm 97 (mroC M)
 ptr:Ptrs w gr gm br bm
 W:M.W
 h1:B≤gr
 h2:gr<gm
 h3:gm<br
 h4:br<bm
theorem RdSt.step {w w':World} {B gr gm br bm:Nat} {M:Mr} {b b':List UInt8} (h:RdSt w B gr gm br bm M b) (hg:w.grownBy w' (some gr)) (hr:∃ bad,Rd w' B gr b' bad):RdSt w' B gr gm br bm M b' :=
 ⟨hr,h.m.grown hg (by intro e;injection e with e;have:=h.h2;omega),h.ptr.grown hg (by have:=h.h2;have:=h.h3;omega) h.h4,h.W,h.h1,h.h2,h.h3,h.h4⟩
theorem RdSt.set {w w':World} {B gr gm br bm:Nat} {M M':Mr} {b:List UInt8} (h:RdSt w B gr gm br bm M b) (hg:w.grownBy w' (some gm)) (hm:Blk w' gm 97 (mroC M')) (hW:M'.W):RdSt w' B gr gm br bm M' b:=by
 obtain ⟨bad,hr⟩:=h.rd
 exact ⟨⟨bad,hr.keep hg (fun k hk=>by injection hk with hk;have:=h.h2;omega)⟩,hm,h.ptr.grown hg h.h3 h.h4,hW,h.h1,h.h2,h.h3,h.h4⟩
theorem RdSt.below {w w':World} {B gr gm br bm:Nat} {M:Mr} {b:List UInt8} (h:RdSt w B gr gm br bm M b) (hb:Below w.heap.size w w'):RdSt w' B gr gm br bm M b:=by
 obtain ⟨bad,hr⟩:=h.rd
 exact ⟨⟨bad,hr.below hb hr.lt⟩,h.m.over hb,h.ptr.below hb,h.W,h.h1,h.h2,h.h3,h.h4⟩
def zki (w:World) (B gr gm br bm:Nat) (M:Mr) (b:List UInt8) (j:Nat) (e:Ending) (w':World):Prop :=
 e = .returned (.tuple #[])∧RdSt w' B gr gm br bm (rdP M b j).1 (rdP M b j).2∧zaW (fun i=>i=gr∨i=gm) w w'
theorem zg2 {w x y:World} {gr gm:Nat} (h:w.grownBy x (some gr)) (k:x.grownBy y (some gm)):zaW (fun i=>i=gr∨i=gm) w y :=
 ((zaW.of_grown h).mono (fun i hi=>by injection hi with hi;exact .inl hi)).trans (zaW.of_grown k) (fun i hi=>by injection hi with hi;exact .inl (.inr hi))
theorem zv9 (w:World) (B gr gm br bm:Nat) (M:Mr) (b:List UInt8) (h:RdSt w B gr gm br bm M b) :
  Calls Tryz.prog 252 #[.pointer (some ⟨br,0,none⟩),.pointer (some ⟨bm,0,none⟩)] w (zki w B gr gm br bm M b 2):=by
 obtain ⟨bad,hr⟩:=h.rd
 have H:=hide h
 have HR:=hide hr
 have hm3:gm<br:=h.h3
 have hm4:br<bm:=h.h4
 have hm2:gr<gm:=h.h2
 clear h hr
 go_enter Tryz.func252,Tryz.ntmps252
 go_wp2_with fail
 refine wp_region_held_drew (S:=fun x=>Ptrs x gr gm br bm) (by kernel_rfl) H.out.ptr (fun hHeld=>?_)
 refine rgK 0 (fun w' hSw=>hSw.m) ?_
 refine rgK 1 (fun w' hSw=>hSw.r) ?_
 refine zaf (i:=2) rfl (by kernel_rfl) (by rfl) (zhB _ B gr b _ (HR.out.keep (zaI (zae w none)) (by simp)) H.out.h1) (fun w=>by kernel_rfl) ?_
 rintro e w1 ⟨rfl,hr1,hg1⟩
 have HS:=hide (H.out.step (zaj (zaI (zae w _)) hg1) hr1)
 have G1:=hide (zaj (zaI (zae w (some gr))) hg1)
 refine ⟨_,rfl,hHeld.grown hg1 (by omega) (by omega),fun hHeld=>?_⟩
 refine rgN ?_
 refine rgT 3 ?_
 refine rgT 4 ?_
 have hl:(rdA b).2.length=16:=zdT _
 have hg2:w1.grownBy (w1.setCells gm 10 (.int .i64 (rdA b).1::bvs (rdA b).2)) (some gm):=zaq _ _ _ _ (zae _ _)
 have HS2:=hide (HS.out.set hg2 (zrQ HS.out.m HS.out.W (rdA b).1 hl) ⟨HS.out.W.rd,hl,HS.out.W.gb,HS.out.W.fb⟩)
 refine zaQ (i:=5) rfl (by kernel_rfl) (by rfl) (zbV (.tmp 6) (.tmp 4) rfl gm 10 rfl rfl hl (zgA HS.out.m HS.out.W (by decide))) (HS2.out.ptr) (fun hHeld=>?_)
 refine rgN ?_
 refine wpAnyH_done (by kernel_rfl) ?_ _
 go_end0
 exact ⟨rfl,HS2.out,zg2 G1.out hg2⟩
theorem zv8 (w:World) (B gr gm br bm:Nat) (M:Mr) (b:List UInt8) (h:RdSt w B gr gm br bm M b) :
  Calls Tryz.prog 254 #[.pointer (some ⟨br,0,none⟩),.pointer (some ⟨bm,0,none⟩)] w (zki w B gr gm br bm M b 3):=by
 obtain ⟨bad,hr⟩:=h.rd
 have H:=hide h
 have HR:=hide hr
 have hm3:gm<br:=h.h3
 have hm4:br<bm:=h.h4
 have hm2:gr<gm:=h.h2
 clear h hr
 go_enter Tryz.func254,Tryz.ntmps254
 go_wp2_with fail
 refine wp_region_held_drew (S:=fun x=>Ptrs x gr gm br bm) (by kernel_rfl) H.out.ptr (fun hHeld=>?_)
 refine rgK 0 (fun w' hSw=>hSw.m) ?_
 refine rgK 1 (fun w' hSw=>hSw.r) ?_
 refine zaf (i:=2) rfl (by kernel_rfl) (by rfl) (zhB _ B gr b _ (HR.out.keep (zaI (zae w none)) (by simp)) H.out.h1) (fun w=>by kernel_rfl) ?_
 rintro e w1 ⟨rfl,hr1,hg1⟩
 have HS:=hide (H.out.step (zaj (zaI (zae w _)) hg1) hr1)
 have G1:=hide (zaj (zaI (zae w (some gr))) hg1)
 refine ⟨_,rfl,hHeld.grown hg1 (by omega) (by omega),fun hHeld=>?_⟩
 refine rgN ?_
 refine rgT 3 ?_
 refine rgT 4 ?_
 have hl:(rdA b).2.length=16:=zdT _
 have hg2:w1.grownBy (w1.setCells gm 27 (.int .i64 (rdA b).1::bvs (rdA b).2)) (some gm):=zaq _ _ _ _ (zae _ _)
 have HS2:=hide (HS.out.set hg2 (zrS HS.out.m HS.out.W (rdA b).1 hl) ⟨HS.out.W.rd,HS.out.W.sb,hl,HS.out.W.fb⟩)
 refine zaQ (i:=5) rfl (by kernel_rfl) (by rfl) (zbV (.tmp 6) (.tmp 4) rfl gm 27 rfl rfl hl (zgA HS.out.m HS.out.W (by decide))) (HS2.out.ptr) (fun hHeld=>?_)
 refine rgN ?_
 refine wpAnyH_done (by kernel_rfl) ?_ _
 go_end0
 exact ⟨rfl,HS2.out,zg2 G1.out hg2⟩
theorem zwa (w:World) (B gr gm br bm:Nat) (M:Mr) (b:List UInt8) (h:RdSt w B gr gm br bm M b) :
  Calls Tryz.prog 251 #[.pointer (some ⟨br,0,none⟩),.pointer (some ⟨bm,0,none⟩)] w (zki w B gr gm br bm M b 1):=by
 obtain ⟨bad,hr⟩:=h.rd
 have H:=hide h
 have HR:=hide hr
 have hm3:gm<br:=h.h3
 have hm4:br<bm:=h.h4
 have hm2:gr<gm:=h.h2
 clear h hr
 go_enter Tryz.func251,Tryz.ntmps251
 go_wp2_with fail
 refine wp_region_held_drew (S:=fun x=>Ptrs x gr gm br bm) (by kernel_rfl) H.out.ptr (fun hHeld=>?_)
 refine rgK 0 (fun w' hSw=>hSw.m) ?_
 refine rgK 1 (fun w' hSw=>hSw.r) ?_
 refine zaf (i:=2) rfl (by kernel_rfl) (by rfl) (zbP _ B gr b _ (HR.out.keep (zaI (zae w none)) (by simp)) 4 (by decide)) (fun w=>by kernel_rfl) ?_
 rintro e w1 ⟨rfl,hr1,hg1⟩
 have HS:=hide (H.out.step (zaj (zaI (zae w _)) hg1) ⟨_,hr1⟩)
 have G1:=hide (zaj (zaI (zae w (some gr))) hg1)
 refine ⟨_,rfl,hHeld.grown hg1 (by omega) (by omega),fun hHeld=>?_⟩
 refine rgN ?_
 refine rgT 3 ?_
 refine rgT 4 ?_
 have hg2:w1.grownBy (w1.setCell ⟨gm,9,none⟩ (.int .i64 ((zau b 4:Nat):Int))) (some gm):=zaM (zae _ _) (.inl rfl) _
 have HS2:=hide (HS.out.set hg2 (zrU HS.out.m HS.out.W ((zau b 4:Nat):Int)) ⟨HS.out.W.rd,HS.out.W.sb,HS.out.W.gb,HS.out.W.fb⟩)
 refine zaQ (i:=5) rfl (by kernel_rfl) (by rfl) (zby 3 (.tmp 6) (.tmp 4) rfl rfl rfl HS.out.m (by rw [zbk HS.out.W];decide) (by kernel_rfl) rfl rfl) (HS2.out.ptr) (fun hHeld=>?_)
 refine rgN ?_
 refine wpAnyH_done (by kernel_rfl) ?_ _
 go_end0
 exact ⟨rfl,HS2.out,zg2 G1.out hg2⟩
theorem zv7 (w:World) (B gr gm br bm:Nat) (M:Mr) (b:List UInt8) (h:RdSt w B gr gm br bm M b) :
  Calls Tryz.prog 255 #[.pointer (some ⟨br,0,none⟩),.pointer (some ⟨bm,0,none⟩)] w (zki w B gr gm br bm M b 4):=by
 obtain ⟨bad,hr⟩:=h.rd
 have H:=hide h
 have HR:=hide hr
 have hm3:gm<br:=h.h3
 have hm4:br<bm:=h.h4
 have hm2:gr<gm:=h.h2
 clear h hr
 go_enter Tryz.func255,Tryz.ntmps255
 go_wp2_with fail
 refine wp_region_held_drew (S:=fun x=>Ptrs x gr gm br bm) (by kernel_rfl) H.out.ptr (fun hHeld=>?_)
 refine rgK 0 (fun w' hSw=>hSw.m) ?_
 refine rgK 1 (fun w' hSw=>hSw.r) ?_
 refine zaf (i:=2) rfl (by kernel_rfl) (by rfl) (zm1 _ B gr b _ (HR.out.keep (zaI (zae w none)) (by simp)) H.out.h1) (fun w=>by kernel_rfl) ?_
 rintro e w1 ⟨rfl,hr1,hg1⟩
 have HS:=hide (H.out.step (zaj (zaI (zae w _)) hg1) hr1)
 have G1:=hide (zaj (zaI (zae w (some gr))) hg1)
 refine ⟨_,rfl,hHeld.grown hg1 (by omega) (by omega),fun hHeld=>?_⟩
 refine rgN ?_
 refine rgT 3 ?_
 refine rgT 4 ?_
 have hg2:w1.grownBy (w1.setCell ⟨gm,61,none⟩ (.string ⟨(rdKy b).toArray⟩)) (some gm):=zaM (zae _ _) (.inl rfl) _
 have HS2:=hide (HS.out.set hg2 (zrR HS.out.m HS.out.W (rdKy b)) ⟨HS.out.W.rd,HS.out.W.sb,HS.out.W.gb,HS.out.W.fb⟩)
 refine zaQ (i:=5) rfl (by kernel_rfl) (by rfl) (zby 9 (.tmp 6) (.tmp 4) rfl rfl rfl HS.out.m (by rw [zbk HS.out.W];decide) (by kernel_rfl) rfl rfl) (HS2.out.ptr) (fun hHeld=>?_)
 refine rgN ?_
 refine wpAnyH_done (by kernel_rfl) ?_ _
 go_end0
 exact ⟨rfl,HS2.out,zg2 G1.out hg2⟩
theorem zwb (w:World) (B gr gm br bm:Nat) (M:Mr) (b:List UInt8) (h:RdSt w B gr gm br bm M b) (hz:M.rd=zdw) :
  Calls Tryz.prog 250 #[.pointer (some ⟨bm,0,none⟩),.pointer (some ⟨br,0,none⟩)] w (zki w B gr gm br bm M b 0):=by
 obtain ⟨bad,hr⟩:=h.rd
 have H:=hide h
 have HR:=hide hr
 have hm3:gm<br:=h.h3
 have hm4:br<bm:=h.h4
 have hm2:gr<gm:=h.h2
 clear h hr
 go_enter Tryz.func250,Tryz.ntmps250
 go_wp2_with fail
 refine wp_region_held_drew (S:=fun x=>Ptrs x gr gm br bm) (by kernel_rfl) H.out.ptr (fun hHeld=>?_)
 refine rgK 0 (fun w' hSw=>hSw.m) ?_
 refine rgT 1 ?_
 refine rgT 2 ?_
 refine rgT 3 ?_
 refine rgK 4 (fun w' hSw=>hSw.r) ?_
 refine zaf (i:=5) rfl (by kernel_rfl) (by rfl) (zaP _ B gr b _ (HR.out.keep (zaI (zae w none)) (by simp)) 8 (by decide)) (fun w=>by kernel_rfl) ?_
 rintro e w1 ⟨v,rfl,ho1,hr1,hg1⟩
 obtain ⟨A,c,rfl,_,_⟩:=zac ho1
 have HS:=hide (H.out.step (zaj (zaI (zae w _)) hg1) ⟨_,hr1⟩)
 have G1:=hide (zaj (zaI (zae w (some gr))) hg1)
 refine ⟨_,rfl,hHeld.grown hg1 (by omega) (by omega),fun hHeld=>?_⟩
 refine rgN ?_
 refine zgv (i:=6) rfl (by kernel_rfl) (by rfl) (zmk (.tmp 5) (.tmp 7) rfl rfl rfl HS.out.m HS.out.W hz (At.own ho1)) ?_
 rintro v2 w2 ⟨hb2,hg2⟩
 have HS2:=hide (HS.out.set hg2 hb2 ⟨zeD _,HS.out.W.sb,HS.out.W.gb,HS.out.W.fb⟩)
 refine ⟨HS2.out.ptr,fun hHeld=>?_⟩
 refine rgN ?_
 refine wpAnyH_done (by kernel_rfl) ?_ _
 go_end0
 exact ⟨rfl,HS2.out,zg2 G1.out hg2⟩
theorem zv6 (w:World) (B gr gm br bm:Nat) (M:Mr) (b:List UInt8) (h:RdSt w B gr gm br bm M b) :
  Calls Tryz.prog 257 #[.pointer (some ⟨br,0,none⟩),.pointer (some ⟨bm,0,none⟩)] w (zki w B gr gm br bm M b 5):=by
 obtain ⟨bad,hr⟩:=h.rd
 have H:=hide h
 have HR:=hide hr
 have hm3:gm<br:=h.h3
 have hm4:br<bm:=h.h4
 have hm2:gr<gm:=h.h2
 clear h hr
 go_enter Tryz.func257,Tryz.ntmps257
 go_wp2_with fail
 refine wp_region_held_drew (S:=fun x=>Ptrs x gr gm br bm) (by kernel_rfl) H.out.ptr (fun hHeld=>?_)
 have HLN:=hide HR.out.len
 refine rgK 0 (fun w' hSw=>hSw.m) ?_
 refine rgK 1 (fun w' hSw=>hSw.r) ?_
 refine rgK 2 (fun w' hSw=>hSw.r) ?_
 refine rgT 3 ?_
 refine rgT 4 ?_
 refine zaf (i:=5) rfl (by kernel_rfl) (by rfl) (Rd.left (HR.out.keep (zaI (zae w none)) (by simp))) (fun w=>by kernel_rfl) ?_
 rintro e w0 ⟨rfl,rfl⟩
 refine ⟨_,rfl,hHeld,fun hHeld=>?_⟩
 refine rgN ?_
 refine zaf (i:=6) rfl (by kernel_rfl) (by rfl) (zaP _ B gr b _ (HR.out.keep (zaI (zae w none)) (by simp)) (b.length:Int) (zcG (by have:=HLN.out;omega))) (fun w=>by kernel_rfl) ?_
 rintro e w1 ⟨v,rfl,ho1,hr1,hg1⟩
 obtain ⟨hst,hsr⟩:=ziw (Nat.le_refl b.length)
 rw [List.take_length] at hst
 rw [List.drop_length] at hsr
 rw [hst] at ho1
 rw [hsr] at hr1
 obtain ⟨A,c,rfl,_,_⟩:=zac ho1
 have HS1:=hide (H.out.step (zaj (zaI (zae w _)) hg1) ⟨_,hr1⟩)
 have G1:=hide (zaj (zaI (zae w (some gr))) hg1)
 refine ⟨_,rfl,hHeld.grown hg1 (by omega) (by omega),fun hHeld=>?_⟩
 refine rgN ?_
 refine zaf (i:=7) rfl (by kernel_rfl) (by rfl) (zeT w1 _ _ A _ c b (At.own ho1) (Nat.le_refl _)) (fun w=>by kernel_rfl) ?_
 rintro e w2 ⟨rfl,hb2⟩
 have HS:=hide (HS1.out.below hb2)
 have G2:=hide (zeF G1.out hb2)
 refine ⟨_,rfl,hHeld.below hb2,fun hHeld=>?_⟩
 refine rgN ?_
 refine rgT 8 ?_
 refine rgT 9 ?_
 refine rgT 10 ?_
 refine rgT 11 ?_
 refine rgT 12 ?_
 have hl:(ofB b).length=16:=zdT _
 have hg2:w2.grownBy (w2.setCells gm 44 (.int .i64 (ofS b)::bvs (ofB b))) (some gm):=zaq _ _ _ _ (zae _ _)
 have HS2:=hide (HS.out.set hg2 (zrT HS.out.m HS.out.W (ofS b) hl) ⟨HS.out.W.rd,HS.out.W.sb,HS.out.W.gb,hl⟩)
 refine zaQ (i:=13) rfl (by kernel_rfl) (by rfl) (zbV (.tmp 14) (.tmp 11) rfl gm 44 rfl rfl hl (zgA HS.out.m HS.out.W (by decide))) (HS2.out.ptr) (fun hHeld=>?_)
 refine rgN ?_
 refine wpAnyH_done (by kernel_rfl) ?_ _
 go_end0
 exact ⟨rfl,HS2.out,zg2 G2.out hg2⟩
end
end Go.Proofs.YtblnkbfbhlhgkaaGreatDoor
