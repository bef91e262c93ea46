/-
  What readBits, readKey, readersOf and its closures of package mroute do, in whatever memory. No condition.
  What readersOf and read of package mroute do, in whatever memory. The one condition: the program's table holds what its text lays.
-/
import Derived.Test.YtjindligkhdddaaGreatDoorSDAV
set_option linter.unusedVariables false
set_option linter.unusedSimpArgs false
namespace Go.Proofs.YtjindligkhdddaaGreatDoor
section
set_option maxRecDepth 20000
open Go.RowKit
theorem zcw {n:Nat} (h:n<9223372036854775808):(Lit.int .i64 (n:Int)).wf=true:=WalkArith.wf_i64 (by omega)
set_option maxHeartbeats 1000000 in
theorem zhs (w:World) (B gr:Nat) (b:List UInt8) (bad:Bool) (h:Rd w B gr b bad) (hB:B≤gr) :
  Calls Tryz.prog 231 #[.pointer (some ⟨gr,0,none⟩)] w fun e w'=>e = .returned (.agg (zas (rdA b).1 (rdA b).2))∧(∃ bad',Rd w' B gr (rdAr b) bad')∧w.grownBy w' (some gr):=by
 have hlt:=h.lt
 have HR:=hide (h.keep (zaP (zac w none) (.cells zAdr 40)) (by simp))
 have HN:=hide (Blk.new w 40 zAdr)
 have G0:=hide (zaP (zac w (some gr)) (.cells zAdr 40))
 have HV1:=hide (zd9 b)
 have HL:=hide (zdF (zab (zaf b 1) ((zan b 1/8:Nat):Int)))
 have HE:Hid (rdA b=(ofS (zab (zaf b 1) ((zan b 1/8:Nat):Int)),ofB (zab (zaf b 1) ((zan b 1/8:Nat):Int)))):=hide rfl
 have HER:Hid (rdAr b=zae (zaf b 1) ((zan b 1/8:Nat):Int)):=hide rfl
 clear h
 go_enter Tryz.func231,Tryz.ntmps231
 go_wp2_with fail
 refine (zaW _ B gr b bad HR.out 1 (by decide)).mono ?_
 rintro e w1 ⟨rfl,hr1,hg1⟩
 have R1:=hide hr1
 have G1:=hide (zak G0.out hg1)
 have N1:=hide (HN.out.grown hg1 (by intro e;injection e with e;omega))
 clear hr1 hg1
 generalize hn:zan b 1=n at *
 have hn2:=HV1.out
 have hq:((n:Int)/8)=((n/8:Nat):Int):=by omega
 generalize hq8:n/8=q at *
 have hq2:q<256:=by omega
 have HQ:=hide hq
 clear hq hn hq8
 go_wp2_with fail
 rw [HQ.out]
 refine (zaR _ B gr _ _ R1.out (q:Int) (zcw (by omega))).mono ?_
 rintro e w2 ⟨v,rfl,ho2,hr2,hg2⟩
 obtain ⟨A,c,rfl,_,_⟩:=zag ho2
 have HA:=hide (At.own ho2)
 have R2:=hide hr2
 have G2:=hide (zak G1.out hg2)
 have N2:=hide (N1.out.grown hg2 (by intro e;injection e with e;omega))
 have hs2:=G2.out.size
 clear ho2 hr2 hg2
 go_wp2_with fail
 refine (zgl w2 _ _ A _ c _ HA.out (Nat.le_refl _)).mono ?_
 rintro e w3 ⟨rfl,hb3⟩
 have R3:=hide (R2.out.below hb3 (by omega))
 have G3:=hide (zes G2.out hb3)
 have N3:=hide (N2.out.over hb3)
 have M3:=hide (Blk.new w3 40 zAdr)
 clear hb3
 go_wp2_with (refine zaG rfl (.tmp 3) (.tmp 12) rfl w3.heap.size rfl (s:=ofS (zab (zaf b 1) (q:Int))) (bs:=ofB (zab (zaf b 1) (q:Int))) rfl HL.out M3.out rfl ?_;intro w4 hb4 hg4;have HB4:=hide hb4;have W4:Hid (Below w3.heap.size w3 w4):=hide (((Below.refl _ _).alloc (Nat.le_refl _) _).grown hg4 (by simp) (by simp));clear hb4 hg4;refine Hid.out ?_)
 refine hide ?_
 have N4:=hide (N3.out.over W4.out)
 have R4:=hide (R3.out.below W4.out (by have:=G3.out.size;omega))
 have G4:=hide (zes G3.out W4.out)
 go_wp2_with (first
  | (with_reducible refine zaI rfl (.tmp 3) rfl w3.heap.size rfl HB4.out HL.out ?_)
  | (refine zaG rfl (.tmp 2) (.tmp 14) rfl w.heap.size rfl (s:=ofS (zab (zaf b 1) (q:Int))) (bs:=ofB (zab (zaf b 1) (q:Int))) rfl HL.out N4.out rfl ?_;intro w5 hb5 hg5;have HB5:=hide hb5;have HG5:=hide hg5;clear hb5 hg5;refine Hid.out ?_))
 refine hide ?_
 go_wp2
 refine ziF (p:=2) rfl rfl HB5.out HL.out rfl ?_
 rw [HE.out,HER.out]
 refine ⟨rfl,⟨_,R4.out.keep HG5.out (fun k hk=>by injection hk with hk;omega)⟩,?_⟩
 exact ⟨HG5.out.os.trans G4.out.os,HG5.out.tape.trans G4.out.tape,HG5.out.output.trans G4.out.output,Nat.le_trans G4.out.size HG5.out.size,fun i hi hne=>(HG5.out.block i (Nat.lt_of_lt_of_le hi G4.out.size) (by intro e;injection e with e;omega)).trans (G4.out.block i hi hne)⟩
theorem zyo (w:World) (x y:UInt8):At (w.alloc (.cells #[.int .u8 (x.toNat:Int),.int .u8 (y.toNat:Int)] 5)) w.heap.size (w.heap.size+1) (some ⟨w.heap.size,0,none⟩) 2 [x,y]:=by
 have hb:=Blk.new w 5 #[.int .u8 (x.toNat:Int),.int .u8 (y.toNat:Int)]
 refine ⟨rfl,fun _=>⟨_,0,rfl,Nat.le_refl _,by omega,fun j u hu=>?_⟩⟩
 rw [Nat.zero_add,hb.cell j]
 match j,hu with
 | 0,hu=>simp at hu;subst hu;rfl
 | 1,hu=>simp at hu;subst hu;rfl
theorem zhz {o:Oper} {a:Act} {w:World} (x y:Operand) (ho:o.op = .binOp .add 9 x y 9) {s r:List UInt8} (hx:a.eval x = .string ⟨s.toArray⟩) (hy:a.eval y = .string ⟨r.toArray⟩)
  (hl:s.length+r.length≤9223372036854775807):(execOp a.eval o).run Tryz.prog w = .ok (.value (.string ⟨(s++r).toArray⟩)) w:=by
 have h:=run_string_add_sum (P:=Tryz.prog) (w:=w) ⟨s.toArray⟩ ⟨r.toArray⟩ (by simpa [ByteArray.size] using hl)
 have e:(⟨s.toArray⟩:ByteArray)++⟨r.toArray⟩=⟨(s++r).toArray⟩:=by
  apply ByteArray.ext
  simp
 rw [e] at h
 unfold execOp
 simp [ho,hx,hy,binOp,h,Result.andThen,eqGuard]
theorem zhh (b:List UInt8) (m:Nat):(zab b (m:Int)).length≤m:=by
 unfold zab
 split
 ·rw [List.length_take];simp;omega
 ·simp
theorem znE (w:World) (B gr:Nat) (b:List UInt8) (bad:Bool) (h:Rd w B gr b bad) (hB:B≤gr) :
  Calls Tryz.prog 234 #[.pointer (some ⟨gr,0,none⟩)] w fun e w'=>e = .returned (.string ⟨(rdKy b).toArray⟩)∧(∃ bad',Rd w' B gr (rdKr b) bad')∧w.grownBy w' (some gr):=by
 have hlt:=h.lt
 have HR:=hide h
 have HV1:=hide (zd9 b)
 have HV2:=hide (zd9 (zaf b 1))
 clear h
 go_enter Tryz.func234,Tryz.ntmps234
 go_wp2_with fail
 refine (zaW _ B gr b bad HR.out 1 (by decide)).mono ?_
 rintro e w1 ⟨rfl,hr1,hg1⟩
 have R1:=hide hr1
 have G1:=hide hg1
 clear hr1 hg1
 go_wp2_with fail
 refine (zaW _ B gr _ _ R1.out 1 (by decide)).mono ?_
 rintro e w2 ⟨rfl,hr2,hg2⟩
 have R2:=hide hr2
 have G2:=hide (zak G1.out hg2)
 clear hr2 hg2
 have HEK:Hid (rdKy b=[UInt8.ofNat (zan b 1),UInt8.ofNat (zan (zaf b 1) 1)]++zab (zaf (zaf b 1) 1) (zan (zaf b 1) 1:Nat)):=hide rfl
 have HER:Hid (rdKr b=zae (zaf (zaf b 1) 1) (zan (zaf b 1) 1:Nat)):=hide rfl
 generalize hn:zan b 1=n at *
 generalize hm:zan (zaf b 1) 1=m at *
 have hn2:=HV1.out
 have hm2:=HV2.out
 clear hn hm
 go_wp2_with fail
 refine wp_region_held_drew (S:=fun x=>w2.grownBy x (some gr)) (by kernel_rfl) (zax (zac w2 _)) (fun hHeld=>?_)
 refine rgT 0 ?_
 refine rgT 1 ?_
 refine rgT 2 ?_
 refine rgT 3 ?_
 refine rgT 6 ?_
 refine rgT 7 ?_
 have AN:Hid (∀ x:World,x.heap.size=w2.heap.size∨True→At (x.alloc (.cells #[.int .u8 (IntKind.u8.wrap (n:Int)),.int .u8 (IntKind.u8.wrap (m:Int))] 5)) x.heap.size (x.heap.size+1) (some ⟨x.heap.size,0,none⟩) 2 [UInt8.ofNat n,UInt8.ofNat m]):=hide (fun x _=>by
  rw [zv7,zv7]
  exact zyo x _ _)
 have hL:=zhh (zaf (zaf b 1) 1) m
 refine zeS (w1:=w2.drew.alloc (.cells #[.int .u8 (IntKind.u8.wrap (n:Int)),.int .u8 (IntKind.u8.wrap (m:Int))] 5)) (i:=8) (j:=4) (v:=.slice (some ⟨w2.heap.size,0,none⟩) 2 2) rfl rfl (by kernel_rfl) (by rfl) (by rfl) (zaR _ B gr _ _ (R2.out.keep (zax (zac w2 none)) (by simp)) (m:Int) (zcw (by omega))) (fun w=>by kernel_rfl) ?_ (zaP hHeld _) (fun hHeld=>?_) ?_
 ·(go_simp <;> with_reducible rfl)
 ·refine rgN ?_
  have A1:=AN.out w2.drew (.inr trivial)
  have R3:=hide ((R2.out.keep (zax (zac w2 none)) (by simp)).keep (zaP (zac w2.drew none) (.cells #[.int .u8 (IntKind.u8.wrap (n:Int)),.int .u8 (IntKind.u8.wrap (m:Int))] 5)) (by simp))
  have hgl:gr<w2.heap.size:=R2.out.lt
  refine zdA (S':=fun x=>w2.grownBy x (some gr)∧At x w2.heap.size (w2.heap.size+1) (some ⟨w2.heap.size,0,none⟩) 2 [UInt8.ofNat n,UInt8.ofNat m]) (fun _ h=>h.1) _ _ _ _ ?_
  have hHeld:=And.intro hHeld A1
  refine rgV 5 (.string ⟨[UInt8.ofNat n,UInt8.ofNat m].toArray⟩) ?_ ?_
  ·(intro w' hSw;exact zed rfl rfl (At.text hSw.2 22 5 Tryz.underlying22 Tryz.underlying5 _ 9 Tryz.underlying9))
  refine zal (i:=8) rfl (by kernel_rfl) (by rfl) (zaR _ B gr _ _ R3.out (m:Int) (zcw (by omega))) (fun w=>by kernel_rfl) ?_
  rintro e w3 ⟨v,rfl,ho3,hr3,hg3⟩
  obtain ⟨A,c,rfl,_,_⟩:=zag ho3
  have R4:=hide hr3
  have HA:=At.own ho3
  have hds:w2.drew.heap.size=w2.heap.size:=rfl
  have hds:w2.drew.heap.size=w2.heap.size:=rfl
  have hds:w2.drew.heap.size=w2.heap.size:=rfl
  have hds:w2.drew.heap.size=w2.heap.size:=rfl
  have hds:w2.drew.heap.size=w2.heap.size:=rfl
  have hk3:=hHeld.2.grown hg3 (by simp) (by intro g hg;injection hg with hg;omega)
  refine ⟨_,rfl,⟨zak hHeld.1 hg3,hk3⟩,fun hHeld=>?_⟩
  refine rgN ?_
  refine zdA (S':=fun x=>(w2.grownBy x (some gr)∧At x w2.heap.size (w2.heap.size+1) (some ⟨w2.heap.size,0,none⟩) 2 [UInt8.ofNat n,UInt8.ofNat m])∧At x (w2.drew.alloc (.cells #[.int .u8 (IntKind.u8.wrap (n:Int)),.int .u8 (IntKind.u8.wrap (m:Int))] 5)).heap.size w3.heap.size A (zab (zaf (zaf b 1) 1) (m:Int)).length (zab (zaf (zaf b 1) 1) (m:Int))) (fun x h=>h.1) _ _ _ _ ?_
  have hHeld:=And.intro hHeld HA
  refine rgV 9 (.string ⟨(zab (zaf (zaf b 1) 1) (m:Int)).toArray⟩) ?_ ?_
  ·(intro w' hSw;exact zed rfl rfl (At.text hSw.2 22 5 Tryz.underlying22 Tryz.underlying5 _ 9 Tryz.underlying9))
  refine rgV 10 (.string ⟨([UInt8.ofNat n,UInt8.ofNat m]++zab (zaf (zaf b 1) 1) (m:Int)).toArray⟩) ?_ ?_
  ·(intro w' hSw;exact zhz (.tmp 14) (.tmp 18) rfl rfl rfl (by simp;omega))
  refine rgT 11 ?_
  have GF:=hide hHeld.1.1
  refine wpAnyH_done (by kernel_rfl) ?_ _
  go_wp2
  go_ret
  rw [HEK.out,HER.out]
  refine ⟨rfl,⟨_,R4.out⟩,zak G2.out GF.out⟩
 ·rintro e w3 ⟨v,rfl,ho3,hr3,hg3⟩
  obtain ⟨A,c,rfl,_,_⟩:=zag ho3
  have HA:=At.own ho3
  have hg3':w2.grownBy w3 (some gr):=zak (zax (zac w2 _)) hg3
  have hgl:gr<w2.heap.size:=R2.out.lt
  refine ⟨_,rfl,hg3',fun hHeld=>?_⟩
  refine rgN ?_
  refine zdA (S':=fun x=>w2.grownBy x (some gr)∧At x w2.drew.heap.size w3.heap.size A (zab (zaf (zaf b 1) 1) (m:Int)).length (zab (zaf (zaf b 1) 1) (m:Int))) (fun x h=>h.1) _ _ _ _ ?_
  have hHeld:=And.intro hHeld HA
  refine rgV 9 (.string ⟨(zab (zaf (zaf b 1) 1) (m:Int)).toArray⟩) ?_ ?_
  ·(intro w' hSw;exact zed rfl rfl (At.text hSw.2 22 5 Tryz.underlying22 Tryz.underlying5 _ 9 Tryz.underlying9))
  refine zaE (w':=w3.alloc (.cells #[.int .u8 (IntKind.u8.wrap (n:Int)),.int .u8 (IntKind.u8.wrap (m:Int))] 5)) (i:=4) (v:=.slice (some ⟨w3.heap.size,0,none⟩) 2 2) rfl (by kernel_rfl) (by rfl) ?_ ⟨zaP hHeld.1 _,hHeld.2.alloc (Nat.le_refl _) _⟩ (fun hHeld=>?_)
  ·(go_simp <;> with_reducible rfl)
  refine rgN ?_
  have R4:=hide (hr3.keep (zaP (zac w3 none) (.cells #[.int .u8 (IntKind.u8.wrap (n:Int)),.int .u8 (IntKind.u8.wrap (m:Int))] 5)) (by simp))
  have A4:=AN.out w3 (.inr trivial)
  refine zdA (S':=fun x=>(w2.grownBy x (some gr)∧At x w2.drew.heap.size w3.heap.size A (zab (zaf (zaf b 1) 1) (m:Int)).length (zab (zaf (zaf b 1) 1) (m:Int)))∧At x w3.heap.size (w3.heap.size+1) (some ⟨w3.heap.size,0,none⟩) 2 [UInt8.ofNat n,UInt8.ofNat m]) (fun x h=>h.1) _ _ _ _ ?_
  have hHeld:=And.intro hHeld A4
  refine rgV 5 (.string ⟨[UInt8.ofNat n,UInt8.ofNat m].toArray⟩) ?_ ?_
  ·(intro w' hSw;exact zed rfl rfl (At.text hSw.2 22 5 Tryz.underlying22 Tryz.underlying5 _ 9 Tryz.underlying9))
  refine rgV 10 (.string ⟨([UInt8.ofNat n,UInt8.ofNat m]++zab (zaf (zaf b 1) 1) (m:Int)).toArray⟩) ?_ ?_
  ·(intro w' hSw;exact zhz (.tmp 14) (.tmp 18) rfl rfl rfl (by simp;omega))
  refine rgT 11 ?_
  have GF:=hide hHeld.1.1
  refine wpAnyH_done (by kernel_rfl) ?_ _
  go_wp2
  go_ret
  rw [HEK.out,HER.out]
  refine ⟨rfl,⟨_,R4.out⟩,zak G2.out GF.out⟩
def Ptrs (x:World) (gr gm br bm:Nat):Prop:=Blk x br 71 #[.pointer (some ⟨gr,0,none⟩)]∧Blk x bm 300 #[.pointer (some ⟨gm,0,none⟩)]
theorem Ptrs.r {x:World} {gr gm br bm:Nat} (h:Ptrs x gr gm br bm):x.cell? ⟨br,0,none⟩=some (.pointer (some ⟨gr,0,none⟩)):=h.1.cell 0
theorem Ptrs.m {x:World} {gr gm br bm:Nat} (h:Ptrs x gr gm br bm):x.cell? ⟨bm,0,none⟩=some (.pointer (some ⟨gm,0,none⟩)):=h.2.cell 0
theorem Ptrs.grown {x y:World} {gr gm br bm g:Nat} (h:Ptrs x gr gm br bm) (hg:x.grownBy y (some g)) (h1:g<br) (h2:br<bm):Ptrs y gr gm br bm :=
 ⟨h.1.grown hg (by intro e;injection e with e;omega),h.2.grown hg (by intro e;injection e with e;omega)⟩
theorem Ptrs.below {x y:World} {gr gm br bm:Nat} (h:Ptrs x gr gm br bm) (hb:Below x.heap.size x y):Ptrs y gr gm br bm:=⟨h.1.over hb,h.2.over hb⟩
structure RdSt (w:World) (B gr gm br bm:Nat) (M:Mr) (b:List UInt8):Prop where
 rd:∃ bad,Rd w B gr b bad
 m:Blk w gm 229 (mroC M)
 ptr:Ptrs w gr gm br bm
 W:M.W
 h1:B≤gr
 h2:gr<gm
 h3:gm<br
 h4:br<bm
theorem RdSt.step {w w':World} {B gr gm br bm:Nat} {M:Mr} {b b':List UInt8} (h:RdSt w B gr gm br bm M b) (hg:w.grownBy w' (some gr)) (hr:∃ bad,Rd w' B gr b' bad):RdSt w' B gr gm br bm M b' :=
 ⟨hr,h.m.grown hg (by intro e;injection e with e;have:=h.h2;omega),h.ptr.grown hg (by have:=h.h2;have:=h.h3;omega) h.h4,h.W,h.h1,h.h2,h.h3,h.h4⟩
theorem RdSt.set {w w':World} {B gr gm br bm:Nat} {M M':Mr} {b:List UInt8} (h:RdSt w B gr gm br bm M b) (hg:w.grownBy w' (some gm)) (hm:Blk w' gm 229 (mroC M')) (hW:M'.W):RdSt w' B gr gm br bm M' b:=by
 obtain ⟨bad,hr⟩:=h.rd
 exact ⟨⟨bad,hr.keep hg (fun k hk=>by injection hk with hk;have:=h.h2;omega)⟩,hm,h.ptr.grown hg h.h3 h.h4,hW,h.h1,h.h2,h.h3,h.h4⟩
theorem RdSt.below {w w':World} {B gr gm br bm:Nat} {M:Mr} {b:List UInt8} (h:RdSt w B gr gm br bm M b) (hb:Below w.heap.size w w'):RdSt w' B gr gm br bm M b:=by
 obtain ⟨bad,hr⟩:=h.rd
 exact ⟨⟨bad,hr.below hb hr.lt⟩,h.m.over hb,h.ptr.below hb,h.W,h.h1,h.h2,h.h3,h.h4⟩
def zkr (w:World) (B gr gm br bm:Nat) (M:Mr) (b:List UInt8) (j:Nat) (e:Ending) (w':World):Prop :=
 e = .returned (.tuple #[])∧RdSt w' B gr gm br bm (rdP M b j).1 (rdP M b j).2∧zaB (fun i=>i=gr∨i=gm) w w'
theorem zgO {w x y:World} {gr gm:Nat} (h:w.grownBy x (some gr)) (k:x.grownBy y (some gm)):zaB (fun i=>i=gr∨i=gm) w y :=
 ((zaB.of_grown h).mono (fun i hi=>by injection hi with hi;exact .inl hi)).trans (zaB.of_grown k) (fun i hi=>by injection hi with hi;exact .inl (.inr hi))
theorem zxu (w:World) (B gr gm br bm:Nat) (M:Mr) (b:List UInt8) (h:RdSt w B gr gm br bm M b) :
  Calls Tryz.prog 230 #[.pointer (some ⟨br,0,none⟩),.pointer (some ⟨bm,0,none⟩)] w (zkr w B gr gm br bm M b 2):=by
 obtain ⟨bad,hr⟩:=h.rd
 have H:=hide h
 have HR:=hide hr
 have hm3:gm<br:=h.h3
 have hm4:br<bm:=h.h4
 have hm2:gr<gm:=h.h2
 clear h hr
 go_enter Tryz.func230,Tryz.ntmps230
 go_wp2_with fail
 refine wp_region_held_drew (S:=fun x=>Ptrs x gr gm br bm) (by kernel_rfl) H.out.ptr (fun hHeld=>?_)
 refine rgK 0 (fun w' hSw=>hSw.m) ?_
 refine rgK 1 (fun w' hSw=>hSw.r) ?_
 refine zal (i:=2) rfl (by kernel_rfl) (by rfl) (zhs _ B gr b _ (HR.out.keep (zax (zac w none)) (by simp)) H.out.h1) (fun w=>by kernel_rfl) ?_
 rintro e w1 ⟨rfl,hr1,hg1⟩
 have HS:=hide (H.out.step (zak (zax (zac w _)) hg1) hr1)
 have G1:=hide (zak (zax (zac w (some gr))) hg1)
 refine ⟨_,rfl,hHeld.grown hg1 (by omega) (by omega),fun hHeld=>?_⟩
 refine rgN ?_
 refine rgT 3 ?_
 refine rgT 4 ?_
 have hl:(rdA b).2.length=16:=zdF _
 have hg2:w1.grownBy (w1.setCells gm 10 (.int .i64 (rdA b).1::bvs (rdA b).2)) (some gm):=zai _ _ _ _ (zac _ _)
 have HS2:=hide (HS.out.set hg2 (zsR HS.out.m HS.out.W (rdA b).1 hl) ⟨HS.out.W.rd,hl,HS.out.W.gb,HS.out.W.fb⟩)
 refine zau (i:=5) rfl (by kernel_rfl) (by rfl) (zbu (.tmp 6) (.tmp 4) rfl gm 10 rfl rfl hl (zgm HS.out.m HS.out.W (by decide))) (HS2.out.ptr) (fun hHeld=>?_)
 refine rgN ?_
 refine wpAnyH_done (by kernel_rfl) ?_ _
 go_end0
 exact ⟨rfl,HS2.out,zgO G1.out hg2⟩
theorem zxt (w:World) (B gr gm br bm:Nat) (M:Mr) (b:List UInt8) (h:RdSt w B gr gm br bm M b) :
  Calls Tryz.prog 232 #[.pointer (some ⟨br,0,none⟩),.pointer (some ⟨bm,0,none⟩)] w (zkr w B gr gm br bm M b 3):=by
 obtain ⟨bad,hr⟩:=h.rd
 have H:=hide h
 have HR:=hide hr
 have hm3:gm<br:=h.h3
 have hm4:br<bm:=h.h4
 have hm2:gr<gm:=h.h2
 clear h hr
 go_enter Tryz.func232,Tryz.ntmps232
 go_wp2_with fail
 refine wp_region_held_drew (S:=fun x=>Ptrs x gr gm br bm) (by kernel_rfl) H.out.ptr (fun hHeld=>?_)
 refine rgK 0 (fun w' hSw=>hSw.m) ?_
 refine rgK 1 (fun w' hSw=>hSw.r) ?_
 refine zal (i:=2) rfl (by kernel_rfl) (by rfl) (zhs _ B gr b _ (HR.out.keep (zax (zac w none)) (by simp)) H.out.h1) (fun w=>by kernel_rfl) ?_
 rintro e w1 ⟨rfl,hr1,hg1⟩
 have HS:=hide (H.out.step (zak (zax (zac w _)) hg1) hr1)
 have G1:=hide (zak (zax (zac w (some gr))) hg1)
 refine ⟨_,rfl,hHeld.grown hg1 (by omega) (by omega),fun hHeld=>?_⟩
 refine rgN ?_
 refine rgT 3 ?_
 refine rgT 4 ?_
 have hl:(rdA b).2.length=16:=zdF _
 have hg2:w1.grownBy (w1.setCells gm 27 (.int .i64 (rdA b).1::bvs (rdA b).2)) (some gm):=zai _ _ _ _ (zac _ _)
 have HS2:=hide (HS.out.set hg2 (zsT HS.out.m HS.out.W (rdA b).1 hl) ⟨HS.out.W.rd,HS.out.W.sb,hl,HS.out.W.fb⟩)
 refine zau (i:=5) rfl (by kernel_rfl) (by rfl) (zbu (.tmp 6) (.tmp 4) rfl gm 27 rfl rfl hl (zgm HS.out.m HS.out.W (by decide))) (HS2.out.ptr) (fun hHeld=>?_)
 refine rgN ?_
 refine wpAnyH_done (by kernel_rfl) ?_ _
 go_end0
 exact ⟨rfl,HS2.out,zgO G1.out hg2⟩
theorem zxv (w:World) (B gr gm br bm:Nat) (M:Mr) (b:List UInt8) (h:RdSt w B gr gm br bm M b) :
  Calls Tryz.prog 229 #[.pointer (some ⟨br,0,none⟩),.pointer (some ⟨bm,0,none⟩)] w (zkr w B gr gm br bm M b 1):=by
 obtain ⟨bad,hr⟩:=h.rd
 have H:=hide h
 have HR:=hide hr
 have hm3:gm<br:=h.h3
 have hm4:br<bm:=h.h4
 have hm2:gr<gm:=h.h2
 clear h hr
 go_enter Tryz.func229,Tryz.ntmps229
 go_wp2_with fail
 refine wp_region_held_drew (S:=fun x=>Ptrs x gr gm br bm) (by kernel_rfl) H.out.ptr (fun hHeld=>?_)
 refine rgK 0 (fun w' hSw=>hSw.m) ?_
 refine rgK 1 (fun w' hSw=>hSw.r) ?_
 refine zal (i:=2) rfl (by kernel_rfl) (by rfl) (zaW _ B gr b _ (HR.out.keep (zax (zac w none)) (by simp)) 4 (by decide)) (fun w=>by kernel_rfl) ?_
 rintro e w1 ⟨rfl,hr1,hg1⟩
 have HS:=hide (H.out.step (zak (zax (zac w _)) hg1) ⟨_,hr1⟩)
 have G1:=hide (zak (zax (zac w (some gr))) hg1)
 refine ⟨_,rfl,hHeld.grown hg1 (by omega) (by omega),fun hHeld=>?_⟩
 refine rgN ?_
 refine rgT 3 ?_
 refine rgT 4 ?_
 have hg2:w1.grownBy (w1.setCell ⟨gm,9,none⟩ (.int .i64 ((zan b 4:Nat):Int))) (some gm):=zao (zac _ _) (.inl rfl) _
 have HS2:=hide (HS.out.set hg2 (zsV HS.out.m HS.out.W ((zan b 4:Nat):Int)) ⟨HS.out.W.rd,HS.out.W.sb,HS.out.W.gb,HS.out.W.fb⟩)
 refine zau (i:=5) rfl (by kernel_rfl) (by rfl) (za9 3 (.tmp 6) (.tmp 4) rfl rfl rfl HS.out.m (by rw [zbe HS.out.W];decide) (by kernel_rfl) rfl rfl) (HS2.out.ptr) (fun hHeld=>?_)
 refine rgN ?_
 refine wpAnyH_done (by kernel_rfl) ?_ _
 go_end0
 exact ⟨rfl,HS2.out,zgO G1.out hg2⟩
theorem zxs (w:World) (B gr gm br bm:Nat) (M:Mr) (b:List UInt8) (h:RdSt w B gr gm br bm M b) :
  Calls Tryz.prog 233 #[.pointer (some ⟨br,0,none⟩),.pointer (some ⟨bm,0,none⟩)] w (zkr w B gr gm br bm M b 4):=by
 obtain ⟨bad,hr⟩:=h.rd
 have H:=hide h
 have HR:=hide hr
 have hm3:gm<br:=h.h3
 have hm4:br<bm:=h.h4
 have hm2:gr<gm:=h.h2
 clear h hr
 go_enter Tryz.func233,Tryz.ntmps233
 go_wp2_with fail
 refine wp_region_held_drew (S:=fun x=>Ptrs x gr gm br bm) (by kernel_rfl) H.out.ptr (fun hHeld=>?_)
 refine rgK 0 (fun w' hSw=>hSw.m) ?_
 refine rgK 1 (fun w' hSw=>hSw.r) ?_
 refine zal (i:=2) rfl (by kernel_rfl) (by rfl) (znE _ B gr b _ (HR.out.keep (zax (zac w none)) (by simp)) H.out.h1) (fun w=>by kernel_rfl) ?_
 rintro e w1 ⟨rfl,hr1,hg1⟩
 have HS:=hide (H.out.step (zak (zax (zac w _)) hg1) hr1)
 have G1:=hide (zak (zax (zac w (some gr))) hg1)
 refine ⟨_,rfl,hHeld.grown hg1 (by omega) (by omega),fun hHeld=>?_⟩
 refine rgN ?_
 refine rgT 3 ?_
 refine rgT 4 ?_
 have hg2:w1.grownBy (w1.setCell ⟨gm,61,none⟩ (.string ⟨(rdKy b).toArray⟩)) (some gm):=zao (zac _ _) (.inl rfl) _
 have HS2:=hide (HS.out.set hg2 (zsS HS.out.m HS.out.W (rdKy b)) ⟨HS.out.W.rd,HS.out.W.sb,HS.out.W.gb,HS.out.W.fb⟩)
 refine zau (i:=5) rfl (by kernel_rfl) (by rfl) (za9 9 (.tmp 6) (.tmp 4) rfl rfl rfl HS.out.m (by rw [zbe HS.out.W];decide) (by kernel_rfl) rfl rfl) (HS2.out.ptr) (fun hHeld=>?_)
 refine rgN ?_
 refine wpAnyH_done (by kernel_rfl) ?_ _
 go_end0
 exact ⟨rfl,HS2.out,zgO G1.out hg2⟩
theorem zxw (w:World) (B gr gm br bm:Nat) (M:Mr) (b:List UInt8) (h:RdSt w B gr gm br bm M b) (hz:M.rd=zda) :
  Calls Tryz.prog 228 #[.pointer (some ⟨bm,0,none⟩),.pointer (some ⟨br,0,none⟩)] w (zkr w B gr gm br bm M b 0):=by
 obtain ⟨bad,hr⟩:=h.rd
 have H:=hide h
 have HR:=hide hr
 have hm3:gm<br:=h.h3
 have hm4:br<bm:=h.h4
 have hm2:gr<gm:=h.h2
 clear h hr
 go_enter Tryz.func228,Tryz.ntmps228
 go_wp2_with fail
 refine wp_region_held_drew (S:=fun x=>Ptrs x gr gm br bm) (by kernel_rfl) H.out.ptr (fun hHeld=>?_)
 refine rgK 0 (fun w' hSw=>hSw.m) ?_
 refine rgT 1 ?_
 refine rgT 2 ?_
 refine rgT 3 ?_
 refine rgK 4 (fun w' hSw=>hSw.r) ?_
 refine zal (i:=5) rfl (by kernel_rfl) (by rfl) (zaR _ B gr b _ (HR.out.keep (zax (zac w none)) (by simp)) 8 (by decide)) (fun w=>by kernel_rfl) ?_
 rintro e w1 ⟨v,rfl,ho1,hr1,hg1⟩
 obtain ⟨A,c,rfl,_,_⟩:=zag ho1
 have HS:=hide (H.out.step (zak (zax (zac w _)) hg1) ⟨_,hr1⟩)
 have G1:=hide (zak (zax (zac w (some gr))) hg1)
 refine ⟨_,rfl,hHeld.grown hg1 (by omega) (by omega),fun hHeld=>?_⟩
 refine rgN ?_
 refine zgi (i:=6) rfl (by kernel_rfl) (by rfl) (zmV (.tmp 5) (.tmp 7) rfl rfl rfl HS.out.m HS.out.W hz (At.own ho1)) ?_
 rintro v2 w2 ⟨hb2,hg2⟩
 have HS2:=hide (HS.out.set hg2 hb2 ⟨zep _,HS.out.W.sb,HS.out.W.gb,HS.out.W.fb⟩)
 refine ⟨HS2.out.ptr,fun hHeld=>?_⟩
 refine rgN ?_
 refine wpAnyH_done (by kernel_rfl) ?_ _
 go_end0
 exact ⟨rfl,HS2.out,zgO G1.out hg2⟩
theorem zxr (w:World) (B gr gm br bm:Nat) (M:Mr) (b:List UInt8) (h:RdSt w B gr gm br bm M b) :
  Calls Tryz.prog 235 #[.pointer (some ⟨br,0,none⟩),.pointer (some ⟨bm,0,none⟩)] w (zkr w B gr gm br bm M b 5):=by
 obtain ⟨bad,hr⟩:=h.rd
 have H:=hide h
 have HR:=hide hr
 have hm3:gm<br:=h.h3
 have hm4:br<bm:=h.h4
 have hm2:gr<gm:=h.h2
 clear h hr
 go_enter Tryz.func235,Tryz.ntmps235
 go_wp2_with fail
 refine wp_region_held_drew (S:=fun x=>Ptrs x gr gm br bm) (by kernel_rfl) H.out.ptr (fun hHeld=>?_)
 have HLN:=hide HR.out.len
 refine rgK 0 (fun w' hSw=>hSw.m) ?_
 refine rgK 1 (fun w' hSw=>hSw.r) ?_
 refine rgK 2 (fun w' hSw=>hSw.r) ?_
 refine rgT 3 ?_
 refine rgT 4 ?_
 refine zal (i:=5) rfl (by kernel_rfl) (by rfl) (Rd.left (HR.out.keep (zax (zac w none)) (by simp))) (fun w=>by kernel_rfl) ?_
 rintro e w0 ⟨rfl,rfl⟩
 refine ⟨_,rfl,hHeld,fun hHeld=>?_⟩
 refine rgN ?_
 refine zal (i:=6) rfl (by kernel_rfl) (by rfl) (zaR _ B gr b _ (HR.out.keep (zax (zac w none)) (by simp)) (b.length:Int) (zcw (by have:=HLN.out;omega))) (fun w=>by kernel_rfl) ?_
 rintro e w1 ⟨v,rfl,ho1,hr1,hg1⟩
 obtain ⟨hst,hsr⟩:=zis (Nat.le_refl b.length)
 rw [List.take_length] at hst
 rw [List.drop_length] at hsr
 rw [hst] at ho1
 rw [hsr] at hr1
 obtain ⟨A,c,rfl,_,_⟩:=zag ho1
 have HS1:=hide (H.out.step (zak (zax (zac w _)) hg1) ⟨_,hr1⟩)
 have G1:=hide (zak (zax (zac w (some gr))) hg1)
 refine ⟨_,rfl,hHeld.grown hg1 (by omega) (by omega),fun hHeld=>?_⟩
 refine rgN ?_
 refine zal (i:=7) rfl (by kernel_rfl) (by rfl) (zgl w1 _ _ A _ c b (At.own ho1) (Nat.le_refl _)) (fun w=>by kernel_rfl) ?_
 rintro e w2 ⟨rfl,hb2⟩
 have HS:=hide (HS1.out.below hb2)
 have G2:=hide (zes G1.out hb2)
 refine ⟨_,rfl,hHeld.below hb2,fun hHeld=>?_⟩
 refine rgN ?_
 refine rgT 8 ?_
 refine rgT 9 ?_
 refine rgT 10 ?_
 refine rgT 11 ?_
 refine rgT 12 ?_
 have hl:(ofB b).length=16:=zdF _
 have hg2:w2.grownBy (w2.setCells gm 44 (.int .i64 (ofS b)::bvs (ofB b))) (some gm):=zai _ _ _ _ (zac _ _)
 have HS2:=hide (HS.out.set hg2 (zsU HS.out.m HS.out.W (ofS b) hl) ⟨HS.out.W.rd,HS.out.W.sb,HS.out.W.gb,hl⟩)
 refine zau (i:=13) rfl (by kernel_rfl) (by rfl) (zbu (.tmp 14) (.tmp 11) rfl gm 44 rfl rfl hl (zgm HS.out.m HS.out.W (by decide))) (HS2.out.ptr) (fun hHeld=>?_)
 refine rgN ?_
 refine wpAnyH_done (by kernel_rfl) ?_ _
 go_end0
 exact ⟨rfl,HS2.out,zgO G2.out hg2⟩
end
section
open Go.RowKit
def rfC (br bm:Nat):Array Value:=#[.func (.func 228) #[] #[.pointer (some ⟨bm,0,none⟩),.pointer (some ⟨br,0,none⟩)],.func (.func 229) #[] #[.pointer (some ⟨br,0,none⟩),.pointer (some ⟨bm,0,none⟩)],.func (.func 230) #[] #[.pointer (some ⟨br,0,none⟩),.pointer (some ⟨bm,0,none⟩)],.func (.func 232) #[] #[.pointer (some ⟨br,0,none⟩),.pointer (some ⟨bm,0,none⟩)],.func (.func 233) #[] #[.pointer (some ⟨br,0,none⟩),.pointer (some ⟨bm,0,none⟩)],.func (.func 235) #[] #[.pointer (some ⟨br,0,none⟩),.pointer (some ⟨bm,0,none⟩)]]
theorem rf_one (br bm:Nat):(rfC br bm).all (·.oneCell')=true:=by simp [rfC,Value.oneCell']
theorem zxk {fn:Func} {R:Ending→World→Prop} {a:Act} {w:World} {p:Tmp} {g br bm:Nat} {t:TypeId} (hf:fn.results=#[.cell p 298])
  (hp:a.tmps.getD p undef = .pointer (some ⟨g,0,none⟩)) (h:Blk w g t (rfC br bm)) (hd:a.defers=[]) (hR:R (.returned (.agg (rfC br bm))) w) :
  bodyPost Tryz.prog fn R .ret a w:=by
 refine bodyPost_ret (v:=.agg (rfC br bm)) ?_ hd hR
 have hp':a.tmps[p]?.getD undef = .pointer (some ⟨g,0,none⟩):=by simpa using hp
 have hl:=run_loadVar_row (P:=Tryz.prog) w g t 298 (rfC br bm) (0,0) _ h Tryz.underlying298 rfl (by rw [show (rfC br bm).size=6 from rfl];kernel_rfl)
 simp [results,hf,hp',asAddr,hl]
theorem zeL {ops:Array Oper} {rest:List Oper} {o:Oper} {a:Act} {w:World} {Q:Exit→Act→World→Prop} (hgd:o.guard=none) (x y:Operand) (ho:o.op = .store 298 x y)
  (g:Nat) (hx:a.eval x = .pointer (some ⟨g,0,none⟩)) {br bm:Nat} (hy:a.eval y = .agg (rfC br bm)) {t:TypeId} {old:Array Value} (h:Blk w g t old) (hold:old.size=6)
  (hk:∀ w',Blk w' g t (rfC br bm)→w.grownBy w' (some g)→wpList Tryz.prog ops Q rest (a.put o.dst undef) w'):wpList Tryz.prog ops Q (o::rest) a w :=
 wpList_store_row hgd 298 x y ho g (rfC br bm) hx hy t old h (by rw [show (rfC br bm).size=6 from rfl];kernel_rfl) (by rw [show (rfC br bm).size=6 from rfl,hold]) (rf_one br bm) (hk _ (h.setRow _) (zav _ _ _))
theorem zkO (w:World) (gr gm:Nat):Calls Tryz.prog 217 #[.pointer (some ⟨gr,0,none⟩),.pointer (some ⟨gm,0,none⟩)] w fun e w' =>
  ∃ br bm,e = .returned (.agg (rfC br bm))∧Ptrs w' gr gm br bm∧w.heap.size≤br∧br<bm∧Below w.heap.size w w':=by
 have HR:=hide (((Blk.new w 71 #[.pointer (some ⟨gr,0,none⟩)]).alloc (.cells #[.pointer (some ⟨gm,0,none⟩)] 300)).alloc (.cells #[.nilFunc,.nilFunc,.nilFunc,.nilFunc,.nilFunc,.nilFunc] 298))
 have HM:=hide ((zc8 w (.cells #[.pointer (some ⟨gr,0,none⟩)] 71) 300 #[.pointer (some ⟨gm,0,none⟩)]).alloc (.cells #[.nilFunc,.nilFunc,.nilFunc,.nilFunc,.nilFunc,.nilFunc] 298))
 have HN:Hid (Blk (((w.alloc (.cells #[.pointer (some ⟨gr,0,none⟩)] 71)).alloc (.cells #[.pointer (some ⟨gm,0,none⟩)] 300)).alloc (.cells #[.nilFunc,.nilFunc,.nilFunc,.nilFunc,.nilFunc,.nilFunc] 298)) (w.heap.size+2) 298 #[.nilFunc,.nilFunc,.nilFunc,.nilFunc,.nilFunc,.nilFunc]):=hide (by
  have:=Blk.new ((w.alloc (.cells #[.pointer (some ⟨gr,0,none⟩)] 71)).alloc (.cells #[.pointer (some ⟨gm,0,none⟩)] 300)) 298 #[.nilFunc,.nilFunc,.nilFunc,.nilFunc,.nilFunc,.nilFunc]
  simpa using this)
 have W0:=hide ((((Below.refl w.heap.size w).alloc (Nat.le_refl _) (.cells #[.pointer (some ⟨gr,0,none⟩)] 71)).alloc (by simp) (.cells #[.pointer (some ⟨gm,0,none⟩)] 300)).alloc (by simp;omega) (.cells #[.nilFunc,.nilFunc,.nilFunc,.nilFunc,.nilFunc,.nilFunc] 298))
 go_enter Tryz.func217,Tryz.ntmps217
 go_wp2_with (refine zeL rfl (.tmp 4) (.tmp 11) rfl (w.heap.size+2) rfl (br:=w.heap.size) (bm:=w.heap.size+1) rfl HN.out rfl ?_;intro w2 hb2 hg2;have HB2:=hide hb2;have HG2:=hide hg2;clear hb2 hg2;refine Hid.out ?_)
 refine hide ?_
 go_wp2
 refine zxk (p:=4) (g:=w.heap.size+2) (t:=298) rfl rfl HB2.out rfl ⟨_,_,rfl,⟨HR.out.grown HG2.out (by simp),HM.out.grown HG2.out (by simp)⟩,Nat.le_refl _,Nat.lt_succ_self _,?_⟩
 exact W0.out.grown HG2.out (by simp;omega) (by simp)
theorem zkp:mroC (zcW 0)=zMro:=rfl
theorem zoW {fn:Func} {R:Ending→World→Prop} {a:Act} {w:World} {p:Tmp} {g:Nat} {t:TypeId} {m:Mr} (hf:fn.results=#[.cell p 229])
  (hp:a.tmps.getD p undef = .pointer (some ⟨g,0,none⟩)) (h:Blk w g t (mroC m)) (hm:m.W) (hd:a.defers=[]) (hR:R (.returned (.agg (mroC m))) w) :
  bodyPost Tryz.prog fn R .ret a w:=by
 refine bodyPost_ret (v:=.agg (mroC m)) ?_ hd hR
 have hp':a.tmps[p]?.getD undef = .pointer (some ⟨g,0,none⟩):=by simpa using hp
 simp [results,hf,hp',asAddr,zh0 h hm]
theorem rdK_no {k:Int} {b:List UInt8} {j:Nat} (h:(za5 k).getD j false=false):rdK k b (j+1)=rdK k b j:=by rw [rdK,h];simp
theorem zxo {k:Int} {b:List UInt8} {j:Nat} (h:(za5 k).getD j false=true):rdK k b (j+1)=rdP (rdK k b j).1 (rdK k b j).2 j:=by rw [rdK,h];simp
theorem zq1 (k:Int):Tryz.prog.built 229 [(0,.int .i64 k)]=some (mroC (zcW k)):=by kernel_rfl
theorem zgK {ops:Array Oper} {rest:List Oper} {o:Oper} {a:Act} {w:World} {Q:Exit→Act→World→Prop} (hgd:o.guard=none) (x:Operand) (ho:o.op = .build 229 #[(0,x)]) (k:Int) (hx:a.eval x = .int .i64 k)
  (hk:wpList Tryz.prog ops Q rest (a.put o.dst (.agg (mroC (zcW k)))) w):wpList Tryz.prog ops Q (o::rest) a w:=by
 refine wpList_plain hgd fun K hK'=>?_
 unfold Oper.wp execOp
 simp only [ho,List.map_toArray,List.map_cons,List.map_nil,hx,Sem.run_bind,run_build w _ _ _ (zq1 k),Result.andThen_ok,Sem.run_pure]
 exact hK' _ _ hk
theorem zbO (k:Int):(zcW k).W:=⟨rfl,rfl,rfl,rfl⟩
set_option maxRecDepth 20000 in
set_option maxHeartbeats 4000000 in
theorem zf1 (w:World) (lo hi:Nat) (A:Option Addr) (n c:Nat) (b:List UInt8) (h:At w lo hi A n b) (hh:hi≤w.heap.size) (hn:n≤140737488355328) (hN:za0 w) :
  Calls Tryz.prog 207 #[.slice A n c] w fun e w'=>e = .returned (.agg (mroC (zbM b)))∧Below w.heap.size w w':=by
 have HA:=hide (h.alloc hh (.cells zMro 229))
 have HRES:Hid (Blk (w.alloc (.cells zMro 229)) w.heap.size 229 (mroC (zcW 0))):=hide (by rw [zkp];exact Blk.new w _ _)
 have W0:=hide ((Below.refl w.heap.size w).alloc (Nat.le_refl _) (.cells zMro 229))
 have hs0:(w.alloc (.cells zMro 229)).heap.size=w.heap.size+1:=by simp
 have HN:=hide hN
 clear h hN
 go_enter Tryz.func207,Tryz.ntmps207
 go_wp2_with fail
 generalize hw0:w.alloc (.cells zMro 229)=w0 at HA HRES W0 hs0 ⊢
 clear hw0
 refine (zbt w0 lo hi A n c b HA.out (by omega) hn).mono ?_
 rintro e w1 ⟨gr,rfl,hgr,hr1,hb1⟩
 generalize hB:w0.heap.size=B at hgr hr1 hs0
 have R1:=hide hr1
 have RES1:=hide (HRES.out.over hb1)
 have W1:=hide (zaa W0.out hb1 (Nat.le_refl _))
 have hgr1:w.heap.size<gr:=by omega
 have hlt1:=hr1.lt
 clear hr1 hb1 hB HA HRES W0
 go_wp2_with fail
 refine (zaW _ B gr b false R1.out 1 (by decide)).mono ?_
 rintro e w2 ⟨rfl,hr2,hg2⟩
 have R2:=hide hr2
 have RES2:=hide (RES1.out.grown hg2 (by intro e;injection e with e;omega))
 have W2:=hide (W1.out.grown hg2 W1.out.size (fun g hg=>by injection hg with hg;omega))
 have hs2:=hg2.size
 clear hr2 hg2
 generalize hk:((zan b 1:Nat):Int)=k
 have HK:=hide hk
 clear hk
 have NEW:=hide (Blk.new w2 229 zMro)
 go_wp2_with (first
  | (with_reducible refine zgK rfl (.tmp 11) rfl k rfl ?_)
  | (refine zar rfl (.tmp 4) (.tmp 12) rfl w2.heap.size rfl (m:=zcW k) rfl (zbO k) NEW.out rfl ?_;intro w3 hb3 hg3;have M3:=hide hb3;have W23:Hid (Below w2.heap.size w2 w3):=hide (((Below.refl _ _).alloc (Nat.le_refl _) _).grown hg3 (by simp) (by simp));clear hb3 hg3;refine Hid.out ?_))
 refine hide ?_
 clear NEW
 have R3:=hide (R2.out.below W23.out R2.out.lt)
 have RES3:=hide (RES2.out.over W23.out)
 have W3:=hide (zaa W2.out W23.out (Nat.le_refl _))
 have hm3:=M3.out.lt
 have hs23:=W23.out.size
 go_wp2_with fail
 refine (zaW _ B gr _ _ R3.out 1 (by decide)).mono ?_
 rintro e w4 ⟨rfl,hr4,hg4⟩
 have R4:=hide hr4
 have RES4:=hide (RES3.out.grown hg4 (by intro e;injection e with e;omega))
 have M4:=hide (M3.out.grown hg4 (by intro e;injection e with e;omega))
 have W4:=hide (W3.out.grown hg4 W3.out.size (fun g hg=>by injection hg with hg;omega))
 have hs4:=hg4.size
 clear hr4 hg4
 generalize hb2:zaf (zaf b 1) 1=b2 at R4
 have HB2:=hide hb2
 clear hb2
 go_wp2_with fail
 refine (zkO w4 gr w2.heap.size).mono ?_
 rintro e w5 ⟨br,bm,rfl,hp5,hbr,hbm,hb5⟩
 have R5:=hide (R4.out.below hb5 R4.out.lt)
 have RES5:=hide (RES4.out.over hb5)
 have M5:=hide (M4.out.over hb5)
 have W5:=hide (zaa W4.out hb5 (Nat.le_refl _))
 have P5:=hide hp5
 have hs5:=hb5.size
 have hbm5:bm<w5.heap.size:=hp5.2.lt
 clear hp5 hb5
 have NEW:=hide (Blk.new w5 298 #[.nilFunc,.nilFunc,.nilFunc,.nilFunc,.nilFunc,.nilFunc])
 go_wp2_with (refine zeL rfl (.tmp 5) (.tmp 16) rfl w5.heap.size rfl (br:=br) (bm:=bm) rfl NEW.out rfl ?_;intro w6 hb6 hg6;have F6:=hide hb6;have W56:Hid (Below w5.heap.size w5 w6):=hide (((Below.refl _ _).alloc (Nat.le_refl _) _).grown hg6 (by simp) (by simp));clear hb6 hg6;refine Hid.out ?_)
 refine hide ?_
 clear NEW
 have RES6:=hide (RES5.out.over W56.out)
 have W6:=hide (zaa W5.out W56.out (Nat.le_refl _))
 have S6:Hid (RdSt w6 B gr w2.heap.size br bm (zcW k) b2):=hide ⟨⟨_,R5.out.below W56.out R5.out.lt⟩,M5.out.over W56.out,P5.out.below W56.out,zbO k,hgr,by omega,by omega,hbm⟩
 have k0:=(S6.out.m.cell 0).trans zeW
 have hf6:=F6.out.lt
 have N6:=hide (HN.out.below W6.out)
 go_wp2_with fail
 refine (zb0 w6 k N6.out).mono ?_
 rintro e w7 ⟨rfl,hb7⟩
 have S7:=hide (S6.out.below hb7)
 have RES7:=hide (RES6.out.over hb7)
 have F7:=hide (F6.out.over hb7)
 have W7:=hide (zaa W6.out hb7 (Nat.le_refl _))
 have hs7:=hb7.size
 clear hb7 k0
 have hgm:w2.heap.size<w6.heap.size:=by omega
 generalize hgmv:w2.heap.size=gm at *
 generalize hgav:w5.heap.size=ga at *
 clear hgmv hgav
 go_wp2_with fail
 go_loopw [20] (fun i wr=>∃ j:Nat,j≤6∧i = .int .i64 j∧RdSt wr B gr gm br bm (rdK k b2 j).1 (rdK k b2 j).2∧Blk wr w.heap.size 229 (mroC (zcW 0))∧Blk wr ga 298 (rfC br bm)∧Below w.heap.size w wr) (fun i _=>6-(intOf i).toNat)
 case atStart=>exact ⟨0,by omega,rfl,S7.out,RES7.out,F7.out,W7.out⟩
 case round =>
  obtain ⟨j,hj,rfl,hS,hres,hf,hw⟩:=hrel
  have SR:=hide hS
  have RESR:=hide hres
  have FR:=hide hf
  have WR:=hide hw
  have hsr:=hw.size
  clear hS hres hf hw
  by_cases h6:j=6
  ·subst h6
   have HE:Hid (zbM b=(rdK k b2 6).1):=hide (by unfold zbM;rw [HB2.out,HK.out])
   go_wp2_with (first
    | (with_reducible refine zay rfl (.tmp 4) rfl gm rfl SR.out.m SR.out.W ?_)
    | (refine zar rfl (.tmp 2) (.tmp 30) rfl w.heap.size rfl (m:=(rdK k b2 6).1) rfl SR.out.W RESR.out (zbe (zbO 0)) ?_;intro w9 hb9 hg9;have M9:=hide hb9;have HG9:=hide hg9;clear hb9 hg9;refine Hid.out ?_))
   refine hide ?_
   go_wp2
   refine zoW (p:=2) rfl rfl M9.out SR.out.W rfl ?_
   rw [HE.out]
   exact ⟨rfl,WR.out.grown HG9.out hsr (by simp)⟩
  ·have hjI:(j:Int)<6:=by omega
   cases hp:(za5 k).getD j false
   ·have HP:=hide hp
    clear hp
    go_wp2_with (with_reducible refine zaU rfl (.tmp 19) (.tmp 20) rfl k j (by omega) rfl rfl _ HP.out ?_)
    go_roundw
    case rel=>exact ⟨j+1,by omega,by go_num,by rw [rdK_no HP.out];exact SR.out,RESR.out,FR.out,WR.out⟩
    case measure=>simp [intOf];omega
   ·have HP:=hide hp
    have hf0:wr.cell? ⟨ga,0,none⟩=some (.func (.func 228) #[] #[.pointer (some ⟨bm,0,none⟩),.pointer (some ⟨br,0,none⟩)]):=(FR.out.cell 0).trans rfl
    have hf1:wr.cell? ⟨ga,1,none⟩=some (.func (.func 229) #[] #[.pointer (some ⟨br,0,none⟩),.pointer (some ⟨bm,0,none⟩)]):=(FR.out.cell 1).trans rfl
    have hf2:wr.cell? ⟨ga,2,none⟩=some (.func (.func 230) #[] #[.pointer (some ⟨br,0,none⟩),.pointer (some ⟨bm,0,none⟩)]):=(FR.out.cell 2).trans rfl
    have hf3:wr.cell? ⟨ga,3,none⟩=some (.func (.func 232) #[] #[.pointer (some ⟨br,0,none⟩),.pointer (some ⟨bm,0,none⟩)]):=(FR.out.cell 3).trans rfl
    have hf4:wr.cell? ⟨ga,4,none⟩=some (.func (.func 233) #[] #[.pointer (some ⟨br,0,none⟩),.pointer (some ⟨bm,0,none⟩)]):=(FR.out.cell 4).trans rfl
    have hf5:wr.cell? ⟨ga,5,none⟩=some (.func (.func 235) #[] #[.pointer (some ⟨br,0,none⟩),.pointer (some ⟨bm,0,none⟩)]):=(FR.out.cell 5).trans rfl
    clear hp
    rcases (show j=0∨j=1∨j=2∨j=3∨j=4∨j=5 by omega) with rfl | rfl | rfl | rfl | rfl | rfl
    all_goals
     clear h6 hjI hj
     go_wp2_with (with_reducible refine zeC HP.out rfl (.tmp 19) (.tmp 20) rfl (by omega) rfl rfl ?_)
     first
      | refine (zxw wr B gr gm br bm _ _ SR.out rfl).mono ?_
      | refine (zxv wr B gr gm br bm _ _ SR.out).mono ?_
      | refine (zxu wr B gr gm br bm _ _ SR.out).mono ?_
      | refine (zxt wr B gr gm br bm _ _ SR.out).mono ?_
      | refine (zxs wr B gr gm br bm _ _ SR.out).mono ?_
      | refine (zxr wr B gr gm br bm _ _ SR.out).mono ?_
     rintro e w8 ⟨rfl,hS8,hT8⟩
     rw [← zxo HP.out] at hS8
     have S8:=hide hS8
     have RES8:=hide (hT8.blk RESR.out (by omega))
     have F8:=hide (hT8.blk FR.out (by omega))
     have W8:=hide (WR.out.trans (hT8.to_below hsr (fun i hi=>by omega)))
     clear hS8 hT8 hf0 hf1 hf2 hf3 hf4 hf5
     go_wp2
     go_roundw
     case rel=>refine ⟨_,?_,?_,S8.out,RES8.out,F8.out,W8.out⟩ <;> first | omega | rfl | go_num
     case measure=>simp [intOf]
end
end Go.Proofs.YtjindligkhdddaaGreatDoor
