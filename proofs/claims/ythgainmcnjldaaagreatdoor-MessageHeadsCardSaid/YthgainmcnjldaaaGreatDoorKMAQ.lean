/-
  MessageHeads, walked: it returns true, whatever bytes come in; what was there stays as it was. The one condition: they fit memory.
-/
import Derived.Test.YthgainmcnjldaaaGreatDoorKMAO
import Derived.Test.YthgainmcnjldaaaGreatDoorKMAP
set_option linter.unusedVariables false
set_option linter.unusedSimpArgs false
namespace Go.Proofs.YthgainmcnjldaaaGreatDoor
section
open Go.RowKit
theorem zf7 {w:World} {base:Nat} {v:Value} {n:Nat} {xs:List Value} (h:w.ownsRow base 5 1 v n xs):zbS w base v:=by
 rcases h.2 with ⟨h,_⟩ | ⟨g,cap,cur,h1,h2,h3,h4,h5,h6,_⟩
 ·exact .inl h
 ·exact .inr ⟨g,n,cap,cur,h1,h2,h3,by omega,h4,h5⟩
theorem zik {w:World} {g n:Nat} {t:TypeId} {bs:List UInt8} {l:List Value} (hb:Blk w g t (bvs bs++l).toArray) (hl:bs.length=n):At w 0 w.heap.size (some ⟨g,0,none⟩) n bs :=
 ⟨hl,fun _=>⟨g,0,rfl,Nat.zero_le _,hb.lt,fun j u hu=>by
  have hj:j<bs.length:=(List.getElem?_eq_some_iff.1 hu).1
  rw [Nat.zero_add,hb.cell j]
  simp [bvs,List.getElem?_append,hj]
  rw [(List.getElem?_eq_some_iff.1 hu).2]⟩⟩
theorem zeD {w:World} {B g n:Nat} {bs:List UInt8} (hb:Blk w g 5 (bvs bs++[bv 77]).toArray) (hl:bs.length=n) (hB:B≤g) (hn:n+1≤maxLen):zbS w B (.slice (some ⟨g,0,none⟩) n (n+1)):=by
 refine .inr ⟨g,n,n+1,_,rfl,hB,hb,?_,by omega,hn⟩
 simp [bvs,hl]
def zf2 (A:Option Addr) (m c g n:Nat) (q:Nat):Value :=
 match q with
 | 0=>.slice A m c
 | _=>.slice (some ⟨g,0,none⟩) n (n+1)
theorem zfd (A:Option Addr) (m c g n L:Nat) (h:∀ a,(Value.slice A m c).ownBlock=some a→L≤a) (hg:g<L) :
  ∀ p q,p<2→q<2→p≠q→(zf2 A m c g n p).ownBlock=none∨(zf2 A m c g n p).ownBlock≠(zf2 A m c g n q).ownBlock:=by
 intro p q hp hq hpq
 have B1:(zf2 A m c g n 1).ownBlock=some g:=rfl
 match p,q,hp,hq with
 | 0,0,_,_=>exact absurd rfl hpq
 | 1,1,_,_=>exact absurd rfl hpq
 | 0,1,_,_=>exact .inr (by rw [B1];intro e;have:=h g e;omega)
 | 1,0,_,_=>exact .inr (by rw [B1];intro e;have:=h g e.symm;omega)
set_option maxRecDepth 20000 in
set_option maxHeartbeats 8000000 in
theorem zft (w:World) (_hg:zjh w∧zji w) (A:Option Addr) (n c:Nat) (b:List UInt8) (hAt:At w 0 w.heap.size A n b) (hn:n≤c) (hc:c≤140737488351232) :
  Calls Tryz.prog 3 #[.slice A n c] w fun e w'=>e = .returned (.bool true)∧Below w.heap.size w w':=by
 have H0:=hide hAt
 have HL:=hide hAt.len
 have HC:=hide hn
 have hn1:n+1≤140737488355328:=by omega
 clear hAt hn hc _hg
 go_enter Tryz.func3,Tryz.ntmps3
 go_wp2_with fail
 refine (zfu w).mono ?_
 rintro e w1 ⟨rfl,hb1⟩
 have W1:=hide hb1
 have H1:=hide (H0.out.below hb1)
 clear hb1
 go_wp2_with fail
 refine (zh0 w1 0 w.heap.size A n c b H1.out W1.out.size hn1).mono ?_
 rintro e w2 ⟨rfl,hblk,hb2⟩
 have K2:=hide hblk
 have W2:=hide (zab W1.out hb2 (Nat.le_refl _))
 have H2:=hide (H0.out.below W2.out)
 have hg1:w.heap.size≤w1.heap.size:=W1.out.size
 have hg2:w1.heap.size<w2.heap.size:=hblk.lt
 clear hblk hb2 H1
 go_wp2_with fail
 refine (zfT w2 0 w2.heap.size _ n (n+1) b (zik K2.out HL.out) (Nat.le_refl _) (Nat.le_succ _)).mono ?_
 rintro e w3 ⟨X,rfl,hx1,hx2,hx3,hx4,hb3⟩
 have X1:=hide hx1
 have X2:=hide hx2
 have X3:=hide hx3
 have X4:=hide hx4
 have W3:=hide (zab W2.out hb3 (Nat.le_refl _))
 have K3:=hide (K2.out.over hb3)
 have N3:=hide (Blk.new w3 26 zNo)
 have hg3:=hb3.size
 clear hx1 hx2 hx3 hx4 hb3
 go_wp2_with (refine zac rfl (.tmp 7) (.tmp 24) rfl w3.heap.size rfl X rfl N3.out rfl ?_;intro w4 hb4 hg4;have B4:=hide hb4;have W34:Hid (Below w3.heap.size w3 w4):=hide (((Below.refl _ _).alloc (Nat.le_refl _) _).grown hg4 (by simp) (fun q hq=>by injection hq with hq;omega));clear hb4 hg4;refine Hid.out ?_)
 refine hide ?_
 have W4:=hide (zab W3.out W34.out (Nat.le_refl _))
 have K4:=hide (K3.out.over W34.out)
 have X5:=hide (zbu X4.out W34.out)
 have H4:=hide (H0.out.below W4.out)
 have hg4:=W34.out.size
 have hl4:=B4.out.lt
 clear K3 X4 N3 W34
 go_wp2_with fail
 refine (zff w4 0 w.heap.size A n c b H4.out W4.out.size HC.out).mono ?_
 rintro e w5 ⟨Y,rfl,hx1,hx2,hx3,hx4,hb5⟩
 have Y1:=hide hx1
 have Y2:=hide hx2
 have Y3:=hide hx3
 have Y4:=hide hx4
 have W5:=hide (zab W4.out hb5 (Nat.le_refl _))
 have K5:=hide (K4.out.over hb5)
 have B5:=hide (B4.out.over hb5)
 have X6:=hide (zbu X5.out hb5)
 have N5:=hide (Blk.new w5 26 zNo)
 have hg5:=hb5.size
 clear hx1 hx2 hx3 hx4 hb5 K4 B4 X5
 go_wp2_with (refine zac rfl (.tmp 11) (.tmp 31) rfl w5.heap.size rfl Y rfl N5.out rfl ?_;intro w6 hb6 hg6;have C6:=hide hb6;have W56:Hid (Below w5.heap.size w5 w6):=hide (((Below.refl _ _).alloc (Nat.le_refl _) _).grown hg6 (by simp) (fun q hq=>by injection hq with hq;omega));clear hb6 hg6;refine Hid.out ?_)
 refine hide ?_
 have W6:=hide (zab W5.out W56.out (Nat.le_refl _))
 have K6:=hide (K5.out.over W56.out)
 have B6:=hide (B5.out.over W56.out)
 have X7:=hide (zbu X6.out W56.out)
 have Y5:=hide (zbu Y4.out W56.out)
 have H6:=hide (H0.out.below W6.out)
 have hg6:=W56.out.size
 clear K5 B5 X6 Y4 N5 W56 H4 H2
 go_wp2_with fail
 refine (zh2 w6 w1.heap.size 0 w.heap.size A n c b K6.out H6.out hn1).mono ?_
 rintro e w7 ⟨rfl,rfl⟩
 have BR:=hide (zad (l:=noL X) B6.out)
 have CR:=hide (zad (l:=noL Y) C6.out)
 go_wp2_with (first
  | (with_reducible refine zaa rfl (zaJ (.tmp 7) rfl w3.heap.size 0 rfl BR.out) ?_)
  | (with_reducible refine zaa rfl (zaJ (.tmp 11) rfl w5.heap.size 0 rfl CR.out) ?_))
 have NX:=hide (zei.at_ X7.out)
 have NY:=hide (zei.at_ Y5.out)
 refine (zdf w6 _ _ _ _ X Y NX.out NY.out (Nat.le_refl _) (Nat.le_refl _) (X1.out.trans Y1.out.symm) (X2.out.trans Y2.out.symm) (X3.out.trans Y3.out.symm)).mono ?_
 rintro e w7 ⟨rfl,hb7⟩
 have W7:=hide (zab W6.out hb7 (Nat.le_refl _))
 have K7:=hide (K6.out.over hb7)
 have B7:=hide (B6.out.over hb7)
 have X8:=hide (zbu X7.out hb7)
 obtain ⟨_,_,k2⟩:=zbL (zad (l:=noL X) B7.out)
 simp only [Nat.reduceAdd] at k2
 have hg7:=hb7.size
 clear hb7 K6 B6 X7 NX NY BR CR
 obtain ⟨OBJ,hobj⟩:∃ o:Obj,o = .cells #[.slice X.dA X.dn X.dc,.slice (some ⟨w1.heap.size,0,none⟩) n (n+1)] 22:=⟨_,rfl⟩
 have HOBJ:=hide hobj
 have BN:=hide (Blk.new w7 22 #[.slice X.dA X.dn X.dc,.slice (some ⟨w1.heap.size,0,none⟩) n (n+1)])
 have BL:=hide ((Below.refl w7.heap.size w7).alloc (Nat.le_refl _) (.cells #[.slice X.dA X.dn X.dc,.slice (some ⟨w1.heap.size,0,none⟩) n (n+1)] 22))
 have X9:=hide (zbu X8.out BL.out)
 have K9:=hide (K7.out.over BL.out)
 have W8:=hide (zab W7.out BL.out (Nat.le_refl _))
 have hlt7:w1.heap.size<w2.heap.size:=hg2
 have HAP:=hide (zfd X.dA X.dn X.dc w1.heap.size n w2.heap.size (fun a ha=>(X9.out.lt a ha).1) hlt7)
 have HOW:Hid (∀ q,q<2→zbS (w7.alloc (.cells #[.slice X.dA X.dn X.dc,.slice (some ⟨w1.heap.size,0,none⟩) n (n+1)] 22)) w.heap.size (zf2 X.dA X.dn X.dc w1.heap.size n q)):=hide (fun q hq=>by
  match q,hq with
  | 0,_=>exact zf7 (zaC X9.out (by omega))
  | 1,_=>exact zeD K9.out HL.out hg1 (by unfold maxLen;omega))
 clear X8 K7 BL W7 hobj HOBJ B7
 go_wp2_with fail
 refine (zgS _ w.heap.size w7.heap.size 2 2 (zf2 X.dA X.dn X.dc w1.heap.size n) #[.slice X.dA X.dn X.dc,.slice (some ⟨w1.heap.size,0,none⟩) n (n+1)] (by decide) (by decide) (Nat.le_refl _) (fun q hq=>by
  match q,hq with
  | 0,_=>rfl
  | 1,_=>rfl) BN.out W8.out.size HOW.out HAP.out).mono ?_
 rintro e w9 ⟨rfl,hb9⟩
 have W9:=hide (W8.out.trans hb9)
 clear hb9 W8 BN HOW HAP X9 K9
 generalize hdK b=kk at *
 generalize hdN b=nn at *
 generalize hdE b=ee at *
 go_wp2
 go_ret
 exact ⟨by simp,W9.out⟩
end
end Go.Proofs.YthgainmcnjldaaaGreatDoor
