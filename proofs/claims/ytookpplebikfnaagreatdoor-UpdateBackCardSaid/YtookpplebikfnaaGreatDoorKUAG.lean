/-
  What within, whole, rows.Write of attributes, and Join of package attr do, in whatever memory. No condition beyond sizes that fit memory.
  Labels in bytes, as plain functions. No condition.
  Tunnels as plain data: which are right, their bytes, and what is read of bytes. No condition. Nothing here speaks of the program.
-/
import Derived.Test.YtookpplebikfnaaGreatDoorKUAF
set_option linter.unusedVariables false
set_option linter.unusedSimpArgs false
namespace Go.Proofs.YtookpplebikfnaaGreatDoor
section
set_option maxRecDepth 20000
set_option maxHeartbeats 3000000
open Go.RowKit
theorem zaL (w:World) (n lo hi:Int):Calls Tryz.prog 43 #[.int .i64 n,.int .i64 lo,.int .i64 hi] w fun e w'=>e = .returned (.bool (decide (lo≤n∧n≤hi)))∧w=w':=by
 by_cases h1:lo≤n
 ·by_cases h2:n≤hi
  ·rw [decide_eq_true (show lo≤n∧n≤hi from ⟨h1,h2⟩)]
   go_enter Tryz.func43,Tryz.ntmps43
   go_wp2
   go_ret
   exact ⟨rfl,rfl⟩
  ·rw [decide_eq_false (show ¬ (lo≤n∧n≤hi) from fun h=>h2 h.2)]
   go_enter Tryz.func43,Tryz.ntmps43
   go_wp2
   go_ret
   exact ⟨rfl,rfl⟩
 ·rw [decide_eq_false (show ¬ (lo≤n∧n≤hi) from fun h=>h1 h.1)]
  go_enter Tryz.func43,Tryz.ntmps43
  go_wp2
  go_ret
  exact ⟨rfl,rfl⟩
theorem zll (w:World) (F K:Nat):At (w.alloc (.cells #[.int .u8 (IntKind.u8.wrap (F:Int)),.int .u8 (IntKind.u8.wrap (K:Int))] 5)) w.heap.size (w.heap.size+1) (some ⟨w.heap.size,0,none⟩) 2 [UInt8.ofNat F,UInt8.ofNat K]:=by
 rw [wrap8,wrap8]
 refine ⟨rfl,fun _=>⟨_,_,rfl,Nat.le_refl _,by omega,fun j u hu=>?_⟩⟩
 have hB:=Blk.new w 5 #[.int .u8 ((UInt8.ofNat F).toNat:Int),.int .u8 ((UInt8.ofNat K).toNat:Int)]
 rw [show (0:Nat)+j=j by omega,hB.cell]
 match j,hu with
 | 0,hu=>simp at hu;subst hu;rfl
 | 1,hu=>simp at hu;subst hu;rfl
structure WhS (w x:World) (lo hi:Nat) (r:RawP):Prop where
 b:Blk x w.heap.size 89 (rawC r)
 v:At x lo hi r.A r.n r.v
 bl:Below w.heap.size w x
 hh:hi≤w.heap.size
section
variable {w x y:World} {lo hi:Nat} {r:RawP}
theorem WhS.on (h:WhS w x lo hi r) (hb:Below x.heap.size x y):WhS w y lo hi r:=⟨h.b.over hb,h.v.below (hb.mono (Nat.le_trans h.hh h.bl.size)),zaa h.bl hb (Nat.le_refl _),h.hh⟩
theorem WhS.new (h:WhS w x lo hi r) (o:Obj):WhS w (x.alloc o) lo hi r:=h.on ((Below.refl _ _).alloc (Nat.le_refl _) _)
theorem WhS.drew (h:WhS w x lo hi r):WhS w x.drew lo hi r:=⟨h.b.drew,h.v.drew,zam h.bl,h.hh⟩
theorem WhS.c0 (h:WhS w x lo hi r):x.cell? ⟨w.heap.size,0,none⟩=some (.int .i64 r.f):=h.b.cell 0
theorem WhS.c1 (h:WhS w x lo hi r):x.cell? ⟨w.heap.size,1,none⟩=some (.int .i64 r.k):=h.b.cell 1
theorem WhS.c2 (h:WhS w x lo hi r):x.cell? ⟨w.heap.size,2,none⟩=some (.slice r.A r.n r.c):=h.b.cell 2
end
def zdg (w:World) (r:Rw) (e:Ending) (w':World):Prop :=
 ∃ v,e = .returned (.tuple #[v,.int .i64 (zbd r)])∧w'.ownsRow w.heap.size 5 1 v (zf8 r).length (bvs (zf8 r))∧Below w.heap.size w w'
theorem zdg.no {w w':World} {r:Rw} {k:Int} (h:zbd r=k) (hk:k≠0) (hb:Below w.heap.size w w'):zdg w r (.returned (.tuple #[.slice none 0 0,.int .i64 k])) w':=by
 refine ⟨.slice none 0 0,by rw [h],?_,hb⟩
 unfold zf8
 rw [if_neg (by rw [h];exact hk)]
 exact World.ownsRow_nil _ _ _ _
theorem zqF (w:World) (lo hi:Nat) (A:Option Addr) (N c F0 K:Nat) (vb:List UInt8) (h:At w lo hi A N vb) (hh:hi≤w.heap.size) (hF0:F0<256) (hl:zcx F0=false) (hK:K<256) (hn:N≤4096) :
  Calls Tryz.prog 40 #[.agg (rawC ⟨F0,K,A,N,c,vb⟩)] w (zdg w ⟨F0,K,vb⟩):=by
 obtain ⟨i0,hi0,hz0,hz1,hz2⟩:=info_parts zbB
 have HVL:=hide h.len
 have ST:Hid (WhS w (w.alloc (.cells (rawC ⟨F0,K,A,N,c,vb⟩) 89)) lo hi ⟨F0,K,A,N,c,vb⟩):=hide ⟨Blk.new w _ _,h.alloc hh _,(Below.refl _ _).alloc (Nat.le_refl _) _,hh⟩
 have c0:=ST.out.c0
 have c1:=ST.out.c1
 have c2:=ST.out.c2
 have ha:bits .and .i64 (F0:Int) 16=0:=by rw [zxs F0 hF0,hl];rfl
 have ho:=or16 F0 hF0 hl
 have HF:Hid (decide ((0:Int)≤(F0:Int)∧(F0:Int)≤255)=true):=hide (decide_eq_true ⟨by omega,by omega⟩)
 have HK:Hid (decide ((0:Int)≤(K:Int)∧(K:Int)≤255)=true):=hide (decide_eq_true ⟨by omega,by omega⟩)
 have HE:Hid (zbd ⟨F0,K,vb⟩=0):=hide (by
  unfold zbd
  rw [if_neg (by show ¬ ((F0:Int)<0∨255<(F0:Int)∨zcx (F0:Int).toNat=true∨(K:Int)<0∨255<(K:Int));rw [Int.toNat_natCast,hl];intro e;rcases e with e | e | e | e | e <;> first | omega | cases e),if_neg (by show ¬ 4096<vb.length;rw [h.len];omega)])
 have HC:=hide (zsV ⟨F0,K,vb⟩)
 have SZO:Hid ((1≤szR N∧szR N≤4)∧N<256^szR N):=hide (zvy hn)
 have HFS:=hide (zuP (x:=⟨F0,K,vb⟩) (by show (0:Int)≤(F0:Int);omega) (by show (F0:Int)≤255;omega) (by show zcx (F0:Int).toNat=false;rw [Int.toNat_natCast];exact hl))
 have hAt:=hide h
 have hgt:¬ (4096:Int)<(N:Int):=by omega
 clear h hl
 by_cases hb:255<N
 ·have hbI:(255:Int)<(N:Int):=by omega
  obtain ⟨F,hF⟩:∃ F,flR ⟨F0,K,vb⟩=F:=⟨_,rfl⟩
  have hFv:F=F0+16:=by
   rw [← hF]
   unfold flR
   show (if 255<vb.length then (F0:Int).toNat+16 else (F0:Int).toNat)=_
   rw [HVL.out,Int.toNat_natCast]
   first | rw [if_pos hb] | rw [if_neg hb]
  rw [hF] at HC HFS
  obtain ⟨SZ,hSZ⟩:∃ SZ,szR N=SZ:=⟨_,rfl⟩
  have hs2:(if zcx F=true then 2 else 1:Nat)=SZ:=by
   rw [HFS.out.2,← hSZ]
   show szR vb.length=_
   rw [HVL.out]
  rw [hSZ] at SZO
  have hf9:F<256:=HFS.out.1
  have HCS:=hide (fun (x:World)=>zeM x F hf9)
  rw [hs2] at HCS
  have HCC:Hid (zbm ⟨F0,K,vb⟩=([UInt8.ofNat F,UInt8.ofNat K]++be SZ N)++vb):=hide (by
   rw [HC.out]
   show ([UInt8.ofNat F,UInt8.ofNat (K:Int).toNat]++be (szR vb.length) vb.length)++vb=_
   rw [Int.toNat_natCast,HVL.out,hSZ])
  clear hF HC hSZ hs2 HFS hf9
  rw [← hFv] at ho;clear hFv
  go_enter Tryz.func40,Tryz.ntmps40
  go_wp2_with (first
    | (go_at_call 43;refine (zaL _ _ _ _).mono ?_;rintro e wq ⟨rfl,rfl⟩;rw [HF.out])
    | (go_at_call 43;refine (zaL _ _ _ _).mono ?_;rintro e wq ⟨rfl,rfl⟩;rw [HK.out]))
  generalize hw1:w.alloc (.cells (rawC ⟨F0,K,A,N,c,vb⟩) 89)=w1 at *
  clear hw1 c0 c1 c2
  refine wp_region_held_drew (S:=fun x=>WhS w x lo hi ⟨F0,K,A,N,c,vb⟩) (by kernel_rfl) ST.out.drew (fun hHeld=>?_)
  refine rgT 0 ?_
  refine rgV 1 (.int .u8 (IntKind.u8.wrap (F:Int))) ?_ ?_
  ·(intro w' hSw;(try dsimp only at hSw);go_simp <;> rfl)
  refine rgT 2 ?_
  refine rgK 3 (fun w' hSw=>hSw.c1) ?_
  refine rgV 4 (.int .u8 (IntKind.u8.wrap (K:Int))) ?_ ?_
  ·(intro w' hSw;(try dsimp only at hSw);go_simp <;> rfl)
  refine rgT 6 ?_
  refine rgK 7 (fun w' hSw=>hSw.c2) ?_
  refine rgT 8 ?_
  refine rgT 9 ?_
  refine zcw (w1:=w1.drew.alloc (.cells #[.int .u8 (IntKind.u8.wrap (F:Int)),.int .u8 (IntKind.u8.wrap (K:Int))] 5)) (i:=10) (j:=5) (v:=.slice (some ⟨w1.heap.size,0,none⟩) 2 2) rfl rfl (by kernel_rfl) (by rfl) (by rfl) (HCS.out _) (fun w=>by kernel_rfl) ?_ (hHeld.new _) (fun hHeld=>?_) ?_
  ·(go_simp <;> with_reducible rfl)
  ·refine rgN ?_
   refine zaf (i:=10) rfl (by kernel_rfl) (by rfl) (HCS.out _) (fun w=>by kernel_rfl) ?_
   rintro e w2 ⟨rfl,rfl⟩
   refine ⟨_,rfl,hHeld,fun hHeld=>?_⟩
   refine rgN ?_
   have SZ1:=SZO.out
   refine zaf (i:=11) rfl (by kernel_rfl) (by rfl) (zed (w1.drew.alloc (.cells #[.int .u8 (IntKind.u8.wrap (F:Int)),.int .u8 (IntKind.u8.wrap (K:Int))] 5)) w1.drew.heap.size (w1.drew.heap.size+1) (some ⟨w1.drew.heap.size,0,none⟩) 2 2 [UInt8.ofNat F,UInt8.ofNat K] (zll w1.drew F K) (by simp) (by decide) N SZ SZ1.1.1 SZ1.1.2 SZ1.2) (fun w=>by kernel_rfl) ?_
   rintro e w3 ⟨v3,rfl,ho3,hb3⟩
   have SD3:=hide (hHeld.on hb3)
   have HO3:=hide (zb2 ho3 (Nat.le_trans ST.out.bl.size (show w1.heap.size≤(w1.drew.alloc (.cells #[.int .u8 (IntKind.u8.wrap (F:Int)),.int .u8 (IntKind.u8.wrap (K:Int))] 5)).heap.size by simp)))
   clear ho3 hb3
   refine ⟨_,rfl,SD3.out,fun hHeld=>?_⟩
   refine rgN ?_
   refine rgT 12 ?_
   refine rgT 13 ?_
   refine rgT 14 ?_
   refine rgT 15 ?_
   refine rgT 16 ?_
   refine wpAnyH_done (by kernel_rfl) ?_ _
   obtain ⟨A3,c3,rfl,_,_⟩:=zad HO3.out
   have c2:=SD3.out.c2
   have HAX:=hide SD3.out.v
   have hz3:=SD3.out.bl.size
   have HBL:=hide SD3.out.bl
   go_wp2_with (at_builtin;go_must (refine zag _ rfl (.tmp 50) (.tmp 52) 36 rfl w.heap.size 5 i0 Tryz.underlying36 hi0 hz0 hz1 hz2 (.slice A3 (2+SZ) c3) (2+SZ) ([UInt8.ofNat F,UInt8.ofNat K]++be SZ N) rfl HO3.out lo hi A N c vb rfl HAX.out (by omega) hz3 ?_);intro v4 w4 hown4 hg4 hat4;have HO4:=hide hown4;have HG4:=hide hg4;clear hown4 hg4 hat4)
   go_ret2
   refine ⟨v4,by rw [HE.out];rfl,?_,HBL.out.grown HG4.out hz3 (fun g hg=>(HO3.out.lt g hg).1)⟩
   have hout:zf8 ⟨F0,K,vb⟩=([UInt8.ofNat F,UInt8.ofNat K]++be SZ N)++vb:=by unfold zf8;rw [if_pos HE.out];exact HCC.out
   rw [hout,List.length_append,List.length_append,zbx,HVL.out]
   exact HO4.out
  ·rintro e w2 ⟨rfl,rfl⟩
   refine ⟨_,rfl,hHeld,fun hHeld=>?_⟩
   refine rgN ?_
   refine zaz (w':=w1.drew.alloc (.cells #[.int .u8 (IntKind.u8.wrap (F:Int)),.int .u8 (IntKind.u8.wrap (K:Int))] 5)) (i:=5) (v:=.slice (some ⟨w1.heap.size,0,none⟩) 2 2) rfl (by kernel_rfl) (by rfl) ?_ (hHeld.new _) (fun hHeld=>?_)
   ·(go_simp <;> with_reducible rfl)
   refine rgN ?_
   have SZ1:=SZO.out
   refine zaf (i:=11) rfl (by kernel_rfl) (by rfl) (zed (w1.drew.alloc (.cells #[.int .u8 (IntKind.u8.wrap (F:Int)),.int .u8 (IntKind.u8.wrap (K:Int))] 5)) w1.drew.heap.size (w1.drew.heap.size+1) (some ⟨w1.drew.heap.size,0,none⟩) 2 2 [UInt8.ofNat F,UInt8.ofNat K] (zll w1.drew F K) (by simp) (by decide) N SZ SZ1.1.1 SZ1.1.2 SZ1.2) (fun w=>by kernel_rfl) ?_
   rintro e w3 ⟨v3,rfl,ho3,hb3⟩
   have SD3:=hide (hHeld.on hb3)
   have HO3:=hide (zb2 ho3 (Nat.le_trans ST.out.bl.size (show w1.heap.size≤(w1.drew.alloc (.cells #[.int .u8 (IntKind.u8.wrap (F:Int)),.int .u8 (IntKind.u8.wrap (K:Int))] 5)).heap.size by simp)))
   clear ho3 hb3
   refine ⟨_,rfl,SD3.out,fun hHeld=>?_⟩
   refine rgN ?_
   refine rgT 12 ?_
   refine rgT 13 ?_
   refine rgT 14 ?_
   refine rgT 15 ?_
   refine rgT 16 ?_
   refine wpAnyH_done (by kernel_rfl) ?_ _
   obtain ⟨A3,c3,rfl,_,_⟩:=zad HO3.out
   have c2:=SD3.out.c2
   have HAX:=hide SD3.out.v
   have hz3:=SD3.out.bl.size
   have HBL:=hide SD3.out.bl
   go_wp2_with (at_builtin;go_must (refine zag _ rfl (.tmp 50) (.tmp 52) 36 rfl w.heap.size 5 i0 Tryz.underlying36 hi0 hz0 hz1 hz2 (.slice A3 (2+SZ) c3) (2+SZ) ([UInt8.ofNat F,UInt8.ofNat K]++be SZ N) rfl HO3.out lo hi A N c vb rfl HAX.out (by omega) hz3 ?_);intro v4 w4 hown4 hg4 hat4;have HO4:=hide hown4;have HG4:=hide hg4;clear hown4 hg4 hat4)
   go_ret2
   refine ⟨v4,by rw [HE.out];rfl,?_,HBL.out.grown HG4.out hz3 (fun g hg=>(HO3.out.lt g hg).1)⟩
   have hout:zf8 ⟨F0,K,vb⟩=([UInt8.ofNat F,UInt8.ofNat K]++be SZ N)++vb:=by unfold zf8;rw [if_pos HE.out];exact HCC.out
   rw [hout,List.length_append,List.length_append,zbx,HVL.out]
   exact HO4.out
 ·have hbI:¬ (255:Int)<(N:Int):=by omega
  obtain ⟨F,hF⟩:∃ F,flR ⟨F0,K,vb⟩=F:=⟨_,rfl⟩
  have hFv:F=F0:=by
   rw [← hF]
   unfold flR
   show (if 255<vb.length then (F0:Int).toNat+16 else (F0:Int).toNat)=_
   rw [HVL.out,Int.toNat_natCast]
   first | rw [if_pos hb] | rw [if_neg hb]
  rw [hF] at HC HFS
  obtain ⟨SZ,hSZ⟩:∃ SZ,szR N=SZ:=⟨_,rfl⟩
  have hs2:(if zcx F=true then 2 else 1:Nat)=SZ:=by
   rw [HFS.out.2,← hSZ]
   show szR vb.length=_
   rw [HVL.out]
  rw [hSZ] at SZO
  have hf9:F<256:=HFS.out.1
  have HCS:=hide (fun (x:World)=>zeM x F hf9)
  rw [hs2] at HCS
  have HCC:Hid (zbm ⟨F0,K,vb⟩=([UInt8.ofNat F,UInt8.ofNat K]++be SZ N)++vb):=hide (by
   rw [HC.out]
   show ([UInt8.ofNat F,UInt8.ofNat (K:Int).toNat]++be (szR vb.length) vb.length)++vb=_
   rw [Int.toNat_natCast,HVL.out,hSZ])
  clear hF HC hSZ hs2 HFS hf9
  subst hFv
  go_enter Tryz.func40,Tryz.ntmps40
  go_wp2_with (first
    | (go_at_call 43;refine (zaL _ _ _ _).mono ?_;rintro e wq ⟨rfl,rfl⟩;rw [HF.out])
    | (go_at_call 43;refine (zaL _ _ _ _).mono ?_;rintro e wq ⟨rfl,rfl⟩;rw [HK.out]))
  generalize hw1:w.alloc (.cells (rawC ⟨F,K,A,N,c,vb⟩) 89)=w1 at *
  clear hw1 c0 c1 c2
  refine wp_region_held_drew (S:=fun x=>WhS w x lo hi ⟨F,K,A,N,c,vb⟩) (by kernel_rfl) ST.out.drew (fun hHeld=>?_)
  refine rgT 0 ?_
  refine rgV 1 (.int .u8 (IntKind.u8.wrap (F:Int))) ?_ ?_
  ·(intro w' hSw;(try dsimp only at hSw);go_simp <;> rfl)
  refine rgT 2 ?_
  refine rgK 3 (fun w' hSw=>hSw.c1) ?_
  refine rgV 4 (.int .u8 (IntKind.u8.wrap (K:Int))) ?_ ?_
  ·(intro w' hSw;(try dsimp only at hSw);go_simp <;> rfl)
  refine rgT 6 ?_
  refine rgK 7 (fun w' hSw=>hSw.c2) ?_
  refine rgT 8 ?_
  refine rgT 9 ?_
  refine zcw (w1:=w1.drew.alloc (.cells #[.int .u8 (IntKind.u8.wrap (F:Int)),.int .u8 (IntKind.u8.wrap (K:Int))] 5)) (i:=10) (j:=5) (v:=.slice (some ⟨w1.heap.size,0,none⟩) 2 2) rfl rfl (by kernel_rfl) (by rfl) (by rfl) (HCS.out _) (fun w=>by kernel_rfl) ?_ (hHeld.new _) (fun hHeld=>?_) ?_
  ·(go_simp <;> with_reducible rfl)
  ·refine rgN ?_
   refine zaf (i:=10) rfl (by kernel_rfl) (by rfl) (HCS.out _) (fun w=>by kernel_rfl) ?_
   rintro e w2 ⟨rfl,rfl⟩
   refine ⟨_,rfl,hHeld,fun hHeld=>?_⟩
   refine rgN ?_
   have SZ1:=SZO.out
   refine zaf (i:=11) rfl (by kernel_rfl) (by rfl) (zed (w1.drew.alloc (.cells #[.int .u8 (IntKind.u8.wrap (F:Int)),.int .u8 (IntKind.u8.wrap (K:Int))] 5)) w1.drew.heap.size (w1.drew.heap.size+1) (some ⟨w1.drew.heap.size,0,none⟩) 2 2 [UInt8.ofNat F,UInt8.ofNat K] (zll w1.drew F K) (by simp) (by decide) N SZ SZ1.1.1 SZ1.1.2 SZ1.2) (fun w=>by kernel_rfl) ?_
   rintro e w3 ⟨v3,rfl,ho3,hb3⟩
   have SD3:=hide (hHeld.on hb3)
   have HO3:=hide (zb2 ho3 (Nat.le_trans ST.out.bl.size (show w1.heap.size≤(w1.drew.alloc (.cells #[.int .u8 (IntKind.u8.wrap (F:Int)),.int .u8 (IntKind.u8.wrap (K:Int))] 5)).heap.size by simp)))
   clear ho3 hb3
   refine ⟨_,rfl,SD3.out,fun hHeld=>?_⟩
   refine rgN ?_
   refine rgT 12 ?_
   refine rgT 13 ?_
   refine rgT 14 ?_
   refine rgT 15 ?_
   refine rgT 16 ?_
   refine wpAnyH_done (by kernel_rfl) ?_ _
   obtain ⟨A3,c3,rfl,_,_⟩:=zad HO3.out
   have c2:=SD3.out.c2
   have HAX:=hide SD3.out.v
   have hz3:=SD3.out.bl.size
   have HBL:=hide SD3.out.bl
   go_wp2_with (at_builtin;go_must (refine zag _ rfl (.tmp 50) (.tmp 52) 36 rfl w.heap.size 5 i0 Tryz.underlying36 hi0 hz0 hz1 hz2 (.slice A3 (2+SZ) c3) (2+SZ) ([UInt8.ofNat F,UInt8.ofNat K]++be SZ N) rfl HO3.out lo hi A N c vb rfl HAX.out (by omega) hz3 ?_);intro v4 w4 hown4 hg4 hat4;have HO4:=hide hown4;have HG4:=hide hg4;clear hown4 hg4 hat4)
   go_ret2
   refine ⟨v4,by rw [HE.out];rfl,?_,HBL.out.grown HG4.out hz3 (fun g hg=>(HO3.out.lt g hg).1)⟩
   have hout:zf8 ⟨F,K,vb⟩=([UInt8.ofNat F,UInt8.ofNat K]++be SZ N)++vb:=by unfold zf8;rw [if_pos HE.out];exact HCC.out
   rw [hout,List.length_append,List.length_append,zbx,HVL.out]
   exact HO4.out
  ·rintro e w2 ⟨rfl,rfl⟩
   refine ⟨_,rfl,hHeld,fun hHeld=>?_⟩
   refine rgN ?_
   refine zaz (w':=w1.drew.alloc (.cells #[.int .u8 (IntKind.u8.wrap (F:Int)),.int .u8 (IntKind.u8.wrap (K:Int))] 5)) (i:=5) (v:=.slice (some ⟨w1.heap.size,0,none⟩) 2 2) rfl (by kernel_rfl) (by rfl) ?_ (hHeld.new _) (fun hHeld=>?_)
   ·(go_simp <;> with_reducible rfl)
   refine rgN ?_
   have SZ1:=SZO.out
   refine zaf (i:=11) rfl (by kernel_rfl) (by rfl) (zed (w1.drew.alloc (.cells #[.int .u8 (IntKind.u8.wrap (F:Int)),.int .u8 (IntKind.u8.wrap (K:Int))] 5)) w1.drew.heap.size (w1.drew.heap.size+1) (some ⟨w1.drew.heap.size,0,none⟩) 2 2 [UInt8.ofNat F,UInt8.ofNat K] (zll w1.drew F K) (by simp) (by decide) N SZ SZ1.1.1 SZ1.1.2 SZ1.2) (fun w=>by kernel_rfl) ?_
   rintro e w3 ⟨v3,rfl,ho3,hb3⟩
   have SD3:=hide (hHeld.on hb3)
   have HO3:=hide (zb2 ho3 (Nat.le_trans ST.out.bl.size (show w1.heap.size≤(w1.drew.alloc (.cells #[.int .u8 (IntKind.u8.wrap (F:Int)),.int .u8 (IntKind.u8.wrap (K:Int))] 5)).heap.size by simp)))
   clear ho3 hb3
   refine ⟨_,rfl,SD3.out,fun hHeld=>?_⟩
   refine rgN ?_
   refine rgT 12 ?_
   refine rgT 13 ?_
   refine rgT 14 ?_
   refine rgT 15 ?_
   refine rgT 16 ?_
   refine wpAnyH_done (by kernel_rfl) ?_ _
   obtain ⟨A3,c3,rfl,_,_⟩:=zad HO3.out
   have c2:=SD3.out.c2
   have HAX:=hide SD3.out.v
   have hz3:=SD3.out.bl.size
   have HBL:=hide SD3.out.bl
   go_wp2_with (at_builtin;go_must (refine zag _ rfl (.tmp 50) (.tmp 52) 36 rfl w.heap.size 5 i0 Tryz.underlying36 hi0 hz0 hz1 hz2 (.slice A3 (2+SZ) c3) (2+SZ) ([UInt8.ofNat F,UInt8.ofNat K]++be SZ N) rfl HO3.out lo hi A N c vb rfl HAX.out (by omega) hz3 ?_);intro v4 w4 hown4 hg4 hat4;have HO4:=hide hown4;have HG4:=hide hg4;clear hown4 hg4 hat4)
   go_ret2
   refine ⟨v4,by rw [HE.out];rfl,?_,HBL.out.grown HG4.out hz3 (fun g hg=>(HO3.out.lt g hg).1)⟩
   have hout:zf8 ⟨F,K,vb⟩=([UInt8.ofNat F,UInt8.ofNat K]++be SZ N)++vb:=by unfold zf8;rw [if_pos HE.out];exact HCC.out
   rw [hout,List.length_append,List.length_append,zbx,HVL.out]
   exact HO4.out
set_option maxHeartbeats 2000000 in
theorem ztC (w:World) (lo hi:Nat) (A:Option Addr) (N c:Nat) (f k:Int) (vb:List UInt8) (h:At w lo hi A N vb) (hh:hi≤w.heap.size) (he:zbd ⟨f,k,vb⟩≠0) :
  Calls Tryz.prog 40 #[.agg (rawC ⟨f,k,A,N,c,vb⟩)] w (zdg w ⟨f,k,vb⟩):=by
 have HVL:=hide h.len
 have ST:Hid (WhS w (w.alloc (.cells (rawC ⟨f,k,A,N,c,vb⟩) 89)) lo hi ⟨f,k,A,N,c,vb⟩):=hide ⟨Blk.new w _ _,h.alloc hh _,(Below.refl _ _).alloc (Nat.le_refl _) _,hh⟩
 have c0:=ST.out.c0
 have c1:=ST.out.c1
 have c2:=ST.out.c2
 by_cases h1:0≤f∧f≤255
 ·obtain ⟨F,rfl⟩:∃ F:Nat,f=F:=⟨f.toNat,by omega⟩
  have HF:Hid (decide ((0:Int)≤(F:Int)∧(F:Int)≤255)=true):=hide (decide_eq_true h1)
  have ha:=zxs F (by omega)
  by_cases h2:zcx F=true
  ·rw [if_pos h2] at ha
   have HE:Hid (zbd ⟨F,k,vb⟩=1):=hide (by
    unfold zbd
    rw [if_pos (.inr (.inr (.inl (by show zcx (F:Int).toNat=true;rw [Int.toNat_natCast];exact h2))))])
   clear h he h1 h2
   go_enter Tryz.func40,Tryz.ntmps40
   go_wp2_with (go_at_call 43;refine (zaL _ _ _ _).mono ?_;rintro e wq ⟨rfl,rfl⟩;rw [HF.out])
   go_ret2
   exact zdg.no HE.out (by decide) ST.out.bl
  ·rw [if_neg h2] at ha
   have hl:zcx F=false:=by simpa using h2
   by_cases h3:0≤k∧k≤255
   ·obtain ⟨K,rfl⟩:∃ K:Nat,k=K:=⟨k.toNat,by omega⟩
    have HK:Hid (decide ((0:Int)≤(K:Int)∧(K:Int)≤255)=true):=hide (decide_eq_true h3)
    have hn:¬ (((F:Nat):Int)<0∨255<(F:Int)∨zcx (F:Int).toNat=true∨(K:Int)<0∨255<(K:Int)):=by
     rw [Int.toNat_natCast,hl]
     intro e
     rcases e with e | e | e | e | e <;> first | omega | cases e
    have h4:4096<vb.length:=by
     by_cases h4:4096<vb.length
     ·exact h4
     ·exact absurd (show zbd ⟨F,K,vb⟩=0 by unfold zbd;rw [if_neg hn,if_neg h4]) he
    have HE:Hid (zbd ⟨F,K,vb⟩=2):=hide (by unfold zbd;rw [if_neg hn,if_pos h4])
    rw [HVL.out] at h4
    have h5:(4096:Int)<(N:Int):=by omega
    clear h he h1 h2 h3 h4 hn hl
    go_enter Tryz.func40,Tryz.ntmps40
    go_wp2_with (first
    | (go_at_call 43;refine (zaL _ _ _ _).mono ?_;rintro e wq ⟨rfl,rfl⟩;rw [HF.out])
    | (go_at_call 43;refine (zaL _ _ _ _).mono ?_;rintro e wq ⟨rfl,rfl⟩;rw [HK.out]))
    go_ret2
    exact zdg.no HE.out (by decide) ST.out.bl
   ·have HK:Hid (decide ((0:Int)≤k∧k≤255)=false):=hide (decide_eq_false h3)
    have HE:Hid (zbd ⟨F,k,vb⟩=1):=hide (by
     unfold zbd
     rw [if_pos (by by_cases h5:k<0;exact .inr (.inr (.inr (.inl h5)));exact .inr (.inr (.inr (.inr (by show 255<k;omega)))))])
    clear h he h1 h2 h3 hl
    go_enter Tryz.func40,Tryz.ntmps40
    go_wp2_with (first
    | (go_at_call 43;refine (zaL _ _ _ _).mono ?_;rintro e wq ⟨rfl,rfl⟩;rw [HF.out])
    | (go_at_call 43;refine (zaL _ _ _ _).mono ?_;rintro e wq ⟨rfl,rfl⟩;rw [HK.out]))
    go_ret2
    exact zdg.no HE.out (by decide) ST.out.bl
 ·have HF:Hid (decide ((0:Int)≤f∧f≤255)=false):=hide (decide_eq_false h1)
  have HE:Hid (zbd ⟨f,k,vb⟩=1):=hide (by
   unfold zbd
   rw [if_pos (by by_cases h5:f<0;exact .inl h5;exact .inr (.inl (by show 255<f;omega)))])
  clear h he h1
  go_enter Tryz.func40,Tryz.ntmps40
  go_wp2_with (go_at_call 43;refine (zaL _ _ _ _).mono ?_;rintro e wq ⟨rfl,rfl⟩;rw [HF.out])
  go_ret2
  exact zdg.no HE.out (by decide) ST.out.bl
theorem zqG (w:World) (lo hi:Nat) (x:RawP) (h:At w lo hi x.A x.n x.v) (hh:hi≤w.heap.size) :
  Calls Tryz.prog 40 #[.agg (rawC x)] w (zdg w x.raw):=by
 obtain ⟨f,k,A,N,c,vb⟩:=x
 by_cases he:zbd ⟨f,k,vb⟩=0
 ·by_cases hc:f<0∨255<f∨zcx f.toNat=true∨k<0∨255<k
  ·unfold zbd at he
   rw [if_pos hc] at he
   exact absurd he (by decide)
  ·obtain ⟨F,rfl⟩:∃ F:Nat,f=F:=⟨f.toNat,by omega⟩
   obtain ⟨K,rfl⟩:∃ K:Nat,k=K:=⟨k.toNat,by omega⟩
   rw [Int.toNat_natCast] at hc
   have hl:zcx F=false:=by
    cases h9:zcx F
    ·rfl
    ·exact absurd (.inr (.inr (.inl h9))) hc
   exact zqF w lo hi A N c F K vb h hh (by omega) hl (by omega) (by have:=zhn he;have h2:=h.len;dsimp only at this h2;omega)
 ·exact ztC w lo hi A N c f k vb h hh he
def zj5 (l:List Rw):List UInt8:=if zbS l=0 then zbr l else []
def zmI (w:World) (l:List Rw) (e:Ending) (w':World):Prop :=
 ∃ v,e = .returned (.tuple #[v,.int .i64 (zbS l)])∧w'.ownsRow w.heap.size 5 1 v (zj5 l).length (bvs (zj5 l))∧Below w.heap.size w w'
theorem zlZ (w:World) (lo hi:Nat) (A:Option Addr) (n c:Nat) (l:List RawP) (h:zcb w lo hi A n l) (hh:hi≤w.heap.size) (hn:n≤1000000) :
  Calls Tryz.prog 39 #[.slice A n c,.func (.func 40) #[] #[]] w (zmI w (l.map RawP.raw)):=by
 obtain ⟨i0,hi0,hz0,hz1,hz2⟩:=info_parts zbB
 have H:=hide h
 have HXL:=hide h.len
 have HM:Hid (∀ (k:Nat) (x:RawP),l[k]?=some x→(l.map RawP.raw)[k]?=some x.raw):=hide (fun k x hx=>by rw [List.getElem?_map,hx];rfl)
 have HML:Hid ((l.map RawP.raw).length=n):=hide (by rw [List.length_map];exact h.len)
 obtain ⟨L,hL⟩:∃ L,l.map RawP.raw=L:=⟨_,rfl⟩
 rw [hL] at HM HML ⊢
 clear h hL
 go_enter Tryz.func39,Tryz.ntmps39
 go_wp2_with fail
 go_loopw [6,13] (fun v i wr=>∃ (k c3:Nat) (B:Option Addr),k≤n∧v = .slice B (zbr (L.take k)).length c3∧i = .int .i64 k∧wr.ownsRow w.heap.size 5 1 (.slice B (zbr (L.take k)).length c3) (zbr (L.take k)).length (bvs (zbr (L.take k)))∧zbS (L.take k)=0∧Below w.heap.size w wr) (fun _ i _=>n-(intOf i).toNat)
 case atStart=>exact ⟨0,0,none,Nat.zero_le _,rfl,rfl,World.ownsRow_nil _ _ _ _,rfl,Below.refl _ _⟩
 case round =>
  obtain ⟨k,c3,B,hk,rfl,rfl,hown,hrt,hbel⟩:=hrel
  have HO:=hide hown
  have WB:=hide hbel
  have HRT:=hide hrt
  clear hown hbel hrt
  by_cases hlt:k<n
  ·have Yr:=hide (H.out.below (w':=wr) (WB.out.mono hh))
   obtain ⟨b,o,x,rfl,hb1,hb2,hx,hat,hv,hnc⟩:=Yr.out.at_ hlt
   have HX:=hide (HM.out k x hx)
   have HAT:=hide hat
   have HV:=hide hv
   have HLEN:Hid ((zbr (L.take k)).length≤k*4100):=hide (by have:=zgg HRT.out;rwa [List.length_take,Nat.min_eq_left (by rw [HML.out];exact hk)] at this)
   have NEW:=hide (Blk.new wr 89 #[.int .i64 0,.int .i64 0,.slice none 0 0])
   clear hx hat hv hnc
   generalize hR:zbr (L.take k)=R at *
   have HRR:=hide hR
   clear hR
   go_wp2_with (first
    | ((with_reducible refine zc2 rfl (.tmp 15) rfl (b:=b) (i:=o+k*3) rfl HAT.out ?_))
    | (refine zcg rfl (.tmp 8) (.tmp 16) rfl wr.heap.size rfl x rfl NEW.out rfl ?_;intro w2 hb2 hg2;have B2:=hide hb2;have W2:Hid (Below wr.heap.size wr w2):=hide (((Below.refl _ _).alloc (Nat.le_refl _) _).grown hg2 (by simp) (by simp));clear hb2 hg2;refine Hid.out ?_))
   refine hide ?_
   have HO2:=hide (zaW HO.out W2.out)
   have WB2:=hide (zaa WB.out W2.out (Nat.le_refl _))
   have HV2:=hide (HV.out.below (W2.out.mono (Nat.le_trans hh WB.out.size)))
   clear NEW
   go_wp2_with (with_reducible refine zb0 rfl (.tmp 8) rfl wr.heap.size rfl B2.out ?_)
   refine (zqG w2 lo hi x HV2.out (Nat.le_trans hh WB2.out.size)).mono ?_
   rintro e w3 ⟨v3,rfl,ho3,hb3⟩
   obtain ⟨A3,c4,rfl,_,_⟩:=zad ho3
   have AT3:=hide (At.own ho3)
   have HO3:=hide (zaW HO2.out hb3)
   have WB3:=hide (zaa WB2.out hb3 (Nat.le_refl _))
   clear ho3 hb3 HO2 WB2 HO WB HV HV2
   by_cases he:zbd x.raw=0
   ·have hoB:Hid (zf8 x.raw=zbm x.raw):=hide (by unfold zf8;rw [if_pos he])
    have HS:=hide (zr5 x.raw)
    have HNX:=hide (znI HRT.out HX.out he)
    have HCN:=hide (zmB HX.out)
    rw [HRR.out] at HCN
    rw [hoB.out] at HS AT3
    rw [hoB.out,he]
    have hsz:=WB3.out.size
    generalize hcx:zbm x.raw=cx at *
    have HL:=hide HLEN.out
    clear he hcx hoB
    go_wp2_with (at_builtin;go_must (refine zag _ rfl (.tmp 26) (.tmp 27) 36 rfl w.heap.size 5 i0 Tryz.underlying36 hi0 hz0 hz1 hz2 (.slice B R.length c3) R.length R rfl HO3.out _ _ A3 cx.length c4 cx rfl AT3.out (by have h1:=HS.out;have h2:=HL.out;have h3:k*4100≤1000000*4100:=Nat.mul_le_mul_right _ (by omega);omega) hsz ?_);intro v1 w4 hown1 hg4 hat4;rw [← List.length_append,HCN.out] at hown1;have HO1:=hide hown1;have HG4:=hide hg4;clear hown1 hg4 hat4)
    obtain ⟨A4,c5,rfl,_,_⟩:=zad HO1.out
    go_roundw
    case rel=>exact ⟨k+1,c5,A4,by omega,rfl,by go_num,HO1.out,HNX.out,WB3.out.grown HG4.out hsz (fun g hg=>(HO3.out.lt g hg).1)⟩
    case measure=>simp [intOf];omega
   ·have HF:=hide (zmw HRT.out HX.out he)
    have he2:(zbd x.raw != 0)=true:=by simpa using he
    clear he
    go_wp2_with fail
    go_ret2
    refine ⟨.slice none 0 0,by rw [HF.out];rfl,?_,WB3.out⟩
    have ho:zj5 L=[]:=by unfold zj5;rw [HF.out,if_neg (by simpa using he2)]
    rw [ho]
    exact World.ownsRow_nil _ _ _ _
  ·have hkn:k=n:=by omega
   subst hkn
   have HT:Hid (L.take k=L):=hide (List.take_of_length_le (by rw [HML.out];exact Nat.le_refl _))
   rw [HT.out] at HO HRT
   have ho:zj5 L=zbr L:=by unfold zj5;rw [if_pos HRT.out]
   have HOO:=hide ho
   clear ho
   go_wp2
   go_ret2
   refine ⟨.slice B (zbr L).length c3,?_,?_,WB.out⟩
   ·rw [HRT.out,HT.out];rfl
   ·rw [HOO.out];exact HO.out
def zvl (w:World) (l:List Rw) (e:Ending) (w':World):Prop :=
 ∃ v,e = .returned (.tuple #[v,.int .i64 (zeg l)])∧w'.ownsRow w.heap.size 5 1 v (zdU l).length (bvs (zdU l))∧Below w.heap.size w w'
theorem ztt (w:World) (lo hi:Nat) (A:Option Addr) (n c:Nat) (l:List RawP) (h:zcb w lo hi A n l) (hh:hi≤w.heap.size) :
  Calls Tryz.prog 20 #[.slice A n c] w (zvl w (l.map RawP.raw)):=by
 have hl:(l.map RawP.raw).length=n:=by rw [List.length_map];exact h.len
 by_cases h64:64<n
 ·have h64I:(64:Int)<(n:Int):=by omega
  have HE:Hid (zeg (l.map RawP.raw)=2):=hide (by unfold zeg;rw [if_pos (by omega)])
  clear h h64 hl
  go_enter Tryz.func20,Tryz.ntmps20
  go_wp2
  go_ret2
  refine ⟨.slice none 0 0,by rw [HE.out];rfl,?_,Below.refl _ _⟩
  unfold zdU
  rw [HE.out]
  exact World.ownsRow_nil _ _ _ _
 ·have h64I:¬ (64:Int)<(n:Int):=by omega
  have HE:Hid (zeg (l.map RawP.raw)=zbS (l.map RawP.raw)):=hide (by unfold zeg;rw [if_neg (by omega)])
  have HC:=hide (zlZ w lo hi A n c l h hh (by omega))
  clear h h64 hl
  go_enter Tryz.func20,Tryz.ntmps20
  go_wp2_with fail
  refine HC.out.mono ?_
  rintro e w1 ⟨v,rfl,ho,hb⟩
  go_wp2
  go_ret2
  refine ⟨v,by rw [HE.out];rfl,?_,hb⟩
  unfold zdU
  rw [HE.out]
  exact ho
end
section
open Go.RowKit
def zca (x:Nat) (last:Bool):List UInt8:=be 3 (x*16+(if last then 1 else 0))
def zdx (bs:List UInt8):Bool:=decide (bs.length=3∧big bs%16≤1)
def zdH (bs:List UInt8):Int:=if zdx bs then ((big bs/16:Nat):Int) else 0
def zfw (bs:List UInt8):Bool:=zdx bs&&decide (big bs%2=1)
def zha (bs:List UInt8):Int:=if zdx bs then 0 else 4
theorem zrJ {bs:List UInt8} (h:zdx bs=false):zdH bs=0∧zfw bs=false∧zha bs=4:=by
 unfold zdH zfw zha
 rw [h]
 exact ⟨rfl,rfl,rfl⟩
theorem zkJ {bs:List UInt8} (h:zdx bs=true):zdH bs=((big bs/16:Nat):Int)∧zfw bs=decide (big bs%2=1)∧zha bs=0:=by
 unfold zdH zfw zha
 rw [h]
 exact ⟨rfl,rfl,rfl⟩
end
section
open Go.RowKit
structure Tun where
 leaf:Bool
 k:Int
 l:Int
 s:Int
 bs:List UInt8
 id:List UInt8
def zda (k s:Int) (id:List UInt8):Bool :=
 if k=0 then decide (s=0∧id.length=0)
 else if k=1 then decide (s=4∧id.length=6)
 else if k=2∨k=7 then decide (0<s∧id.length≤64)
 else if k=3∨k=4∨k=5 then decide (s=id.length)&&zcE (ofS id) (ofB id)
 else if k=6 then decide (0<s∧id.length=0)
 else false
def zbP (t:Tun):Bool:=decide (0≤t.l∧t.l≤1048575)&&(zaB t.s t.bs&&zda t.k t.s t.id)
def zd5 (k s:Int):List UInt8:=[if k=7 then 7 else 6,0,if s=16 then 2 else 1,UInt8.ofNat s.toNat]
def zbf (k s:Int) (bs id:List UInt8):List UInt8 :=
 if k=1 then id.take 4++([0,0]++(id.drop 4++zar s bs))
 else if k=2∨k=7 then zd5 k s++(zar s bs++(be 2 id.length++id))
 else if k=3∨k=4∨k=5 then zar s bs++id
 else zar s bs
def zmb (t:Tun):List UInt8:=[if t.leaf then 1 else 0,UInt8.ofNat t.k.toNat]
def zb9 (t:Tun):List UInt8:=zmb t++(zca t.l.toNat false++zbf t.k t.s t.bs t.id)
def zc7 (k:Int) (r:List UInt8):List UInt8 × List UInt8 :=
 if k=1 then (zae (zae (zae r 4) 2) 2,zab r 4++zab (zae (zae r 4) 2) 2)
 else if k=2∨k=7 then (zab (zae (zae r 3) 1) (big (zab (zae r 3) 1):Nat),zae (zae (zae (zae r 3) 1) (big (zab (zae r 3) 1):Nat)) 2)
 else if k=3∨k=4∨k=5 then (zab r ((r.length/2:Nat):Int),zae r ((r.length/2:Nat):Int))
 else (r,[])
def zj9 (b:List UInt8):Bool:=decide (big (zab b 1)=1)
def zhX (b:List UInt8):Nat:=big (zab (zae b 1) 1)
def numR (b:List UInt8):Int:=zdH (zab (zae (zae b 1) 1) 3)
def zky (b:List UInt8):List UInt8:=zae (zae (zae b 1) 1) 3
def zeZ (b:List UInt8):Tun :=
 ⟨zj9 b,zhX b,numR b,ofS (zc7 (zhX b) (zky b)).1,ofB (zc7 (zhX b) (zky b)).1,(zc7 (zhX b) (zky b)).2⟩
def zuy:Tun:=⟨false,0,0,0,zau,[]⟩
def zgz (b:List UInt8):Bool:=zbP (zeZ b)&&decide (zb9 (zeZ b)=b)
def zch (b:List UInt8):Tun:=if zgz b then zeZ b else zuy
def zj4 (b:List UInt8):Int:=if zgz b then 0 else 4
theorem zfD {k s:Int} {id:List UInt8} (h:zda k s id=true):k=0∨k=1∨k=2∨k=3∨k=4∨k=5∨k=6∨k=7:=by
 unfold zda at h
 by_cases h0:k=0
 ·omega
 ·by_cases h1:k=1
  ·omega
  ·by_cases h2:k=2∨k=7
   ·omega
   ·by_cases h3:k=3∨k=4∨k=5
    ·omega
    ·by_cases h6:k=6
     ·omega
     ·rw [if_neg h0,if_neg h1,if_neg h2,if_neg h3,if_neg h6] at h
      cases h
theorem zcT {s:Int} {bs:List UInt8} (h:zaB s bs=true):s=0∨s=4∨s=16:=by
 unfold zaB at h
 simp only [Bool.and_eq_true] at h
 exact of_decide_eq_true h.1
theorem zwM {s:Nat} {bs:List UInt8} (hl:bs.length=16) (hs:s≤16) (hz:(bs.drop s).all (· == 0)=true):pad (bs.take s)=bs:=by
 unfold pad
 have h1:(bs.take s).length=s:=by rw [List.length_take];omega
 rw [h1]
 have h2:bs.drop s=List.replicate (16-s) 0:=by
  rw [List.eq_replicate_iff]
  refine ⟨by rw [List.length_drop,hl],fun b hb=>?_⟩
  rw [List.all_eq_true] at hz
  exact eq_of_beq (hz b hb)
 rw [← h2,List.take_append_drop]
theorem zdX {s:Int} {bs:List UInt8} (hl:bs.length=16) (h:zaB s bs=true):(zar s bs).length=s.toNat:=by
 have:=zcT h
 unfold zar
 rw [if_pos h,List.length_take]
 omega
theorem zgA {s:Int} {bs:List UInt8} (hl:bs.length=16) (h:zaB s bs=true):ofS (zar s bs)=s∧ofB (zar s bs)=bs:=by
 have h3:=zcT h
 have hn:=zdX hl h
 have hs:zdi (zar s bs).length=true:=by
  rw [hn];unfold zdi;exact decide_eq_true (by omega)
 unfold ofS ofB
 rw [if_pos hs,if_pos hs]
 refine ⟨by rw [hn];omega,?_⟩
 have hz:(bs.drop s.toNat).all (· == 0)=true:=by
  unfold zaB at h
  simp only [Bool.and_eq_true] at h
  exact h.2
 unfold zar
 rw [if_pos h]
 exact zwM hl (by omega) hz
theorem zni {k s:Int} {bs id:List UInt8} (hl:bs.length=16) (hr:zaB s bs=true) (h:zda k s id=true):zc7 k (zbf k s bs id)=(zar s bs,id):=by
 have hs:=zcT hr
 have hn:=zdX hl hr
 have hk:=zfD h
 unfold zda at h
 unfold zc7 zbf
 by_cases h1:k=1
 ·subst h1
  simp only [Int.reduceEq,if_false,if_true,decide_eq_true_eq] at h
  rw [if_pos rfl,if_pos rfl]
  have h4:(id.take 4).length=4:=by rw [List.length_take];omega
  have h2:(id.drop 4).length=2:=by rw [List.length_drop];omega
  obtain ⟨a1,a2⟩:=zcK (xs:=id.take 4) (ys:=[0,0]++(id.drop 4++zar s bs)) (n:=4) (by rw [h4];rfl)
  obtain ⟨b1,b2⟩:=zcK (xs:=[0,0]) (ys:=id.drop 4++zar s bs) (n:=2) rfl
  obtain ⟨c1,c2⟩:=zcK (xs:=id.drop 4) (ys:=zar s bs) (n:=2) (by rw [h2];rfl)
  rw [a1,a2,b2,c1,c2,List.take_append_drop]
 ·by_cases h2:k=2∨k=7
  ·rw [if_neg h1,if_pos h2,if_neg h1,if_pos h2]
   obtain ⟨a1,a2⟩:=zcK (xs:=[if k=7 then 7 else 6,0,if s=16 then 2 else 1]) (ys:=[UInt8.ofNat s.toNat]++(zar s bs++(be 2 id.length++id))) (n:=3) rfl
   have e0:zd5 k s++(zar s bs++(be 2 id.length++id))=[if k=7 then 7 else 6,0,if s=16 then 2 else 1]++([UInt8.ofNat s.toNat]++(zar s bs++(be 2 id.length++id))):=rfl
   rw [e0,a2]
   obtain ⟨b1,b2⟩:=zcK (xs:=[UInt8.ofNat s.toNat]) (ys:=zar s bs++(be 2 id.length++id)) (n:=1) rfl
   rw [b1,b2]
   have hb:big [UInt8.ofNat s.toNat]=s.toNat:=by rcases hs with rfl | rfl | rfl <;> rfl
   rw [hb]
   obtain ⟨c1,c2⟩:=zcK (xs:=zar s bs) (ys:=be 2 id.length++id) (n:=(s.toNat:Nat)) (by rw [hn])
   obtain ⟨d1,d2⟩:=zcK (xs:=be 2 id.length) (ys:=id) (n:=2) (by rw [zbx];rfl)
   rw [c1,c2,d2]
  ·by_cases h3:k=3∨k=4∨k=5
   ·rw [if_neg h1,if_neg h2,if_pos h3,if_neg h1,if_neg h2,if_pos h3]
    have h0:¬ k=0:=by omega
    rw [if_neg h0,if_neg h1,if_neg h2,if_pos h3] at h
    simp only [Bool.and_eq_true,decide_eq_true_eq] at h
    have he:(zar s bs++id).length/2=(zar s bs).length:=by
     rw [List.length_append];omega
    rw [he]
    obtain ⟨c1,c2⟩:=zcK (xs:=zar s bs) (ys:=id) (n:=((zar s bs).length:Nat)) rfl
    rw [c1,c2]
   ·rw [if_neg h1,if_neg h2,if_neg h3,if_neg h1,if_neg h2,if_neg h3]
    have hid:id=[]:=by
     rcases (show k=0∨k=6 by omega) with rfl | rfl
     ·simp only [if_true,decide_eq_true_eq] at h
      exact List.eq_nil_of_length_eq_zero h.2
     ·simp at h
      exact h.2
    rw [hid]
theorem zsU (t:Tun) (hk:0≤t.k∧t.k≤7) (hl:0≤t.l∧t.l≤1048575):zj9 (zb9 t)=t.leaf∧((zhX (zb9 t):Nat):Int)=t.k∧numR (zb9 t)=t.l∧zky (zb9 t)=zbf t.k t.s t.bs t.id:=by
 obtain ⟨lf,k,l,s,bs,id⟩:=t
 simp only at hk hl
 obtain ⟨a1,a2⟩:=zcK (xs:=[if lf then 1 else 0]) (ys:=[UInt8.ofNat k.toNat]++(zca l.toNat false++zbf k s bs id)) (n:=1) rfl
 obtain ⟨b1,b2⟩:=zcK (xs:=[UInt8.ofNat k.toNat]) (ys:=zca l.toNat false++zbf k s bs id) (n:=1) rfl
 obtain ⟨c1,c2⟩:=zcK (xs:=zca l.toNat false) (ys:=zbf k s bs id) (n:=3) (by unfold zca;rw [zbx];rfl)
 have e0:zb9 ⟨lf,k,l,s,bs,id⟩=[if lf then 1 else 0]++([UInt8.ofNat k.toNat]++(zca l.toNat false++zbf k s bs id)):=rfl
 rw [e0]
 unfold zj9 zhX numR zky
 rw [a1,a2,b1,b2,c1,c2]
 have hn:zdH (zca l.toNat false)=l:=by
  have hb:big (zca l.toNat false)=l.toNat*16:=by
   unfold zca
   rw [zkl 3 _ (by simp;omega)]
   simp
  have hok:zdx (zca l.toNat false)=true:=by
   unfold zdx
   rw [hb]
   exact decide_eq_true ⟨by unfold zca;rw [zbx],by omega⟩
  rw [(zkJ hok).1,hb]
  omega
 refine ⟨?_,?_,hn,rfl⟩
 ·cases lf <;> rfl
 ·rcases (show k=0∨k=1∨k=2∨k=3∨k=4∨k=5∨k=6∨k=7 by omega) with rfl | rfl | rfl | rfl | rfl | rfl | rfl | rfl <;> rfl
theorem zrK (t:Tun) (hl:t.bs.length=16) (h:zbP t=true):zeZ (zb9 t)=t:=by
 unfold zbP at h
 simp only [Bool.and_eq_true,decide_eq_true_eq] at h
 obtain ⟨h1,h2,h3⟩:=h
 have hk:=zfD h3
 obtain ⟨a,b,c,d⟩:=zsU t (by omega) h1
 unfold zeZ
 rw [a,b,c,d,zni hl h2 h3]
 simp only [(zgA hl h2).1,(zgA hl h2).2]
theorem zpJ (t:Tun) (hl:t.bs.length=16) (h:zbP t=true):zgz (zb9 t)=true∧zch (zb9 t)=t∧zj4 (zb9 t)=0:=by
 have h1:=zrK t hl h
 have h2:zgz (zb9 t)=true:=by
  unfold zgz
  rw [h1,h]
  exact decide_eq_true rfl
 refine ⟨h2,?_,?_⟩
 ·unfold zch;rw [if_pos h2,h1]
 ·unfold zj4;rw [if_pos h2]
theorem zb3 (xs:List UInt8):(ofB xs).length=16:=by
 unfold ofB
 split
 ·rename_i h
  have:xs.length≤16:=by
   have h':((xs.length:Nat):Int)=0∨((xs.length:Nat):Int)=4∨((xs.length:Nat):Int)=16:=of_decide_eq_true h
   omega
  unfold pad
  rw [List.length_append,List.length_replicate]
  omega
 ·rfl
theorem zoD (b:List UInt8):(zeZ b).bs.length=16:=zb3 _
theorem zr1 (b:List UInt8):(zch b).bs.length=16:=by
 unfold zch
 split
 ·exact zoD b
 ·rfl
end
end Go.Proofs.YtookpplebikfnaaGreatDoor
