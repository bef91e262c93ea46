/-
  What within, whole, rows.Write of attributes, and Join of package attr do, in whatever memory. No condition beyond sizes that fit memory.
  Labels in bytes, as plain functions. No condition.
  Tunnels as plain data: which are right, their bytes, and what is read of bytes. No condition. Nothing here speaks of the program.
-/
import Derived.Test.YtookpplebikfnaaGreatDoorKEAF
set_option linter.unusedVariables false
set_option linter.unusedSimpArgs false
namespace Go.Proofs.YtookpplebikfnaaGreatDoor
section
set_option maxRecDepth 20000
set_option maxHeartbeats 3000000
open Go.RowKit
theorem zaN (w:World) (n lo hi:Int):Calls Tryz.prog 43 #[.int .i64 n,.int .i64 lo,.int .i64 hi] w fun e w'=>e = .returned (.bool (decide (lo≤n∧n≤hi)))∧w=w':=by
 by_cases h1:lo≤n
 ·by_cases h2:n≤hi
  ·rw [decide_eq_true (show lo≤n∧n≤hi from ⟨h1,h2⟩)]
   go_enter Tryz.func43,Tryz.ntmps43
   go_wp2
   go_ret
   exact ⟨rfl,rfl⟩
  ·rw [decide_eq_false (show ¬ (lo≤n∧n≤hi) from fun h=>h2 h.2)]
   go_enter Tryz.func43,Tryz.ntmps43
   go_wp2
   go_ret
   exact ⟨rfl,rfl⟩
 ·rw [decide_eq_false (show ¬ (lo≤n∧n≤hi) from fun h=>h1 h.1)]
  go_enter Tryz.func43,Tryz.ntmps43
  go_wp2
  go_ret
  exact ⟨rfl,rfl⟩
theorem zle (w:World) (F K:Nat):At (w.alloc (.cells #[.int .u8 (IntKind.u8.wrap (F:Int)),.int .u8 (IntKind.u8.wrap (K:Int))] 5)) w.heap.size (w.heap.size+1) (some ⟨w.heap.size,0,none⟩) 2 [UInt8.ofNat F,UInt8.ofNat K]:=by
 rw [wrap8,wrap8]
 refine ⟨rfl,fun _=>⟨_,_,rfl,Nat.le_refl _,by omega,fun j u hu=>?_⟩⟩
 have hB:=Blk.new w 5 #[.int .u8 ((UInt8.ofNat F).toNat:Int),.int .u8 ((UInt8.ofNat K).toNat:Int)]
 rw [show (0:Nat)+j=j by omega,hB.cell]
 match j,hu with
 | 0,hu=>simp at hu;subst hu;rfl
 | 1,hu=>simp at hu;subst hu;rfl
structure WhS (w x:World) (lo hi:Nat) (r:RawP):Prop where
 b:Blk x w.heap.size 89 (rawC r)
 v:At x lo hi r.A r.n r.v
 bl:Below w.heap.size w x
 hh:hi≤w.heap.size
section
variable {w x y:World} {lo hi:Nat} {r:RawP}
theorem WhS.on (h:WhS w x lo hi r) (hb:Below x.heap.size x y):WhS w y lo hi r:=⟨h.b.over hb,h.v.below (hb.mono (Nat.le_trans h.hh h.bl.size)),zaa h.bl hb (Nat.le_refl _),h.hh⟩
theorem WhS.new (h:WhS w x lo hi r) (o:Obj):WhS w (x.alloc o) lo hi r:=h.on ((Below.refl _ _).alloc (Nat.le_refl _) _)
theorem WhS.drew (h:WhS w x lo hi r):WhS w x.drew lo hi r:=⟨h.b.drew,h.v.drew,zam h.bl,h.hh⟩
theorem WhS.c0 (h:WhS w x lo hi r):x.cell? ⟨w.heap.size,0,none⟩=some (.int .i64 r.f):=h.b.cell 0
theorem WhS.c1 (h:WhS w x lo hi r):x.cell? ⟨w.heap.size,1,none⟩=some (.int .i64 r.k):=h.b.cell 1
theorem WhS.c2 (h:WhS w x lo hi r):x.cell? ⟨w.heap.size,2,none⟩=some (.slice r.A r.n r.c):=h.b.cell 2
end
def zdf (w:World) (r:Rw) (e:Ending) (w':World):Prop :=
 ∃ v,e = .returned (.tuple #[v,.int .i64 (zbC r)])∧w'.ownsRow w.heap.size 5 1 v (zf9 r).length (bvs (zf9 r))∧Below w.heap.size w w'
theorem zdf.no {w w':World} {r:Rw} {k:Int} (h:zbC r=k) (hk:k≠0) (hb:Below w.heap.size w w'):zdf w r (.returned (.tuple #[.slice none 0 0,.int .i64 k])) w':=by
 refine ⟨.slice none 0 0,by rw [h],?_,hb⟩
 unfold zf9
 rw [if_neg (by rw [h];exact hk)]
 exact World.ownsRow_nil _ _ _ _
theorem zqk (w:World) (lo hi:Nat) (A:Option Addr) (N c F0 K:Nat) (vb:List UInt8) (h:At w lo hi A N vb) (hh:hi≤w.heap.size) (hF0:F0<256) (hl:zc2 F0=false) (hK:K<256) (hn:N≤4096) :
  Calls Tryz.prog 40 #[.agg (rawC ⟨F0,K,A,N,c,vb⟩)] w (zdf w ⟨F0,K,vb⟩):=by
 obtain ⟨i0,hi0,hz0,hz1,hz2⟩:=info_parts zbA
 have HVL:=hide h.len
 have ST:Hid (WhS w (w.alloc (.cells (rawC ⟨F0,K,A,N,c,vb⟩) 89)) lo hi ⟨F0,K,A,N,c,vb⟩):=hide ⟨Blk.new w _ _,h.alloc hh _,(Below.refl _ _).alloc (Nat.le_refl _) _,hh⟩
 have c0:=ST.out.c0
 have c1:=ST.out.c1
 have c2:=ST.out.c2
 have ha:bits .and .i64 (F0:Int) 16=0:=by rw [zwS F0 hF0,hl];rfl
 have ho:=or16 F0 hF0 hl
 have HF:Hid (decide ((0:Int)≤(F0:Int)∧(F0:Int)≤255)=true):=hide (decide_eq_true ⟨by omega,by omega⟩)
 have HK:Hid (decide ((0:Int)≤(K:Int)∧(K:Int)≤255)=true):=hide (decide_eq_true ⟨by omega,by omega⟩)
 have HE:Hid (zbC ⟨F0,K,vb⟩=0):=hide (by
  unfold zbC
  rw [if_neg (by show ¬ ((F0:Int)<0∨255<(F0:Int)∨zc2 (F0:Int).toNat=true∨(K:Int)<0∨255<(K:Int));rw [Int.toNat_natCast,hl];intro e;rcases e with e | e | e | e | e <;> first | omega | cases e),if_neg (by show ¬ 4096<vb.length;rw [h.len];omega)])
 have HC:=hide (zss ⟨F0,K,vb⟩)
 have SZO:Hid ((1≤szR N∧szR N≤4)∧N<256^szR N):=hide (zu0 hn)
 have HFS:=hide (zuj (x:=⟨F0,K,vb⟩) (by show (0:Int)≤(F0:Int);omega) (by show (F0:Int)≤255;omega) (by show zc2 (F0:Int).toNat=false;rw [Int.toNat_natCast];exact hl))
 have hAt:=hide h
 have hgt:¬ (4096:Int)<(N:Int):=by omega
 clear h hl
 by_cases hb:255<N
 ·have hbI:(255:Int)<(N:Int):=by omega
  obtain ⟨F,hF⟩:∃ F,flR ⟨F0,K,vb⟩=F:=⟨_,rfl⟩
  have hFv:F=F0+16:=by
   rw [← hF]
   unfold flR
   show (if 255<vb.length then (F0:Int).toNat+16 else (F0:Int).toNat)=_
   rw [HVL.out,Int.toNat_natCast]
   first | rw [if_pos hb] | rw [if_neg hb]
  rw [hF] at HC HFS
  obtain ⟨SZ,hSZ⟩:∃ SZ,szR N=SZ:=⟨_,rfl⟩
  have hs2:(if zc2 F=true then 2 else 1:Nat)=SZ:=by
   rw [HFS.out.2,← hSZ]
   show szR vb.length=_
   rw [HVL.out]
  rw [hSZ] at SZO
  have hf9:F<256:=HFS.out.1
  have HCS:=hide (fun (x:World)=>zeJ x F hf9)
  rw [hs2] at HCS
  have HCC:Hid (zbl ⟨F0,K,vb⟩=([UInt8.ofNat F,UInt8.ofNat K]++be SZ N)++vb):=hide (by
   rw [HC.out]
   show ([UInt8.ofNat F,UInt8.ofNat (K:Int).toNat]++be (szR vb.length) vb.length)++vb=_
   rw [Int.toNat_natCast,HVL.out,hSZ])
  clear hF HC hSZ hs2 HFS hf9
  rw [← hFv] at ho;clear hFv
  go_enter Tryz.func40,Tryz.ntmps40
  go_wp2_with (first
    | (go_at_call 43;refine (zaN _ _ _ _).mono ?_;rintro e wq ⟨rfl,rfl⟩;rw [HF.out])
    | (go_at_call 43;refine (zaN _ _ _ _).mono ?_;rintro e wq ⟨rfl,rfl⟩;rw [HK.out]))
  generalize hw1:w.alloc (.cells (rawC ⟨F0,K,A,N,c,vb⟩) 89)=w1 at *
  clear hw1 c0 c1 c2
  refine wp_region_held_drew (S:=fun x=>WhS w x lo hi ⟨F0,K,A,N,c,vb⟩) (by kernel_rfl) ST.out.drew (fun hHeld=>?_)
  refine rgT 0 ?_
  refine rgV 1 (.int .u8 (IntKind.u8.wrap (F:Int))) ?_ ?_
  ·(intro w' hSw;(try dsimp only at hSw);go_simp <;> rfl)
  refine rgT 2 ?_
  refine rgK 3 (fun w' hSw=>hSw.c1) ?_
  refine rgV 4 (.int .u8 (IntKind.u8.wrap (K:Int))) ?_ ?_
  ·(intro w' hSw;(try dsimp only at hSw);go_simp <;> rfl)
  refine rgT 6 ?_
  refine rgK 7 (fun w' hSw=>hSw.c2) ?_
  refine rgT 8 ?_
  refine rgT 9 ?_
  refine zcw (w1:=w1.drew.alloc (.cells #[.int .u8 (IntKind.u8.wrap (F:Int)),.int .u8 (IntKind.u8.wrap (K:Int))] 5)) (i:=10) (j:=5) (v:=.slice (some ⟨w1.heap.size,0,none⟩) 2 2) rfl rfl (by kernel_rfl) (by rfl) (by rfl) (HCS.out _) (fun w=>by kernel_rfl) ?_ (hHeld.new _) (fun hHeld=>?_) ?_
  ·(go_simp <;> with_reducible rfl)
  ·refine rgN ?_
   refine zaf (i:=10) rfl (by kernel_rfl) (by rfl) (HCS.out _) (fun w=>by kernel_rfl) ?_
   rintro e w2 ⟨rfl,rfl⟩
   refine ⟨_,rfl,hHeld,fun hHeld=>?_⟩
   refine rgN ?_
   have SZ1:=SZO.out
   refine zaf (i:=11) rfl (by kernel_rfl) (by rfl) (zea (w1.drew.alloc (.cells #[.int .u8 (IntKind.u8.wrap (F:Int)),.int .u8 (IntKind.u8.wrap (K:Int))] 5)) w1.drew.heap.size (w1.drew.heap.size+1) (some ⟨w1.drew.heap.size,0,none⟩) 2 2 [UInt8.ofNat F,UInt8.ofNat K] (zle w1.drew F K) (by simp) (by decide) N SZ SZ1.1.1 SZ1.1.2 SZ1.2) (fun w=>by kernel_rfl) ?_
   rintro e w3 ⟨v3,rfl,ho3,hb3⟩
   have SD3:=hide (hHeld.on hb3)
   have HO3:=hide (zb1 ho3 (Nat.le_trans ST.out.bl.size (show w1.heap.size≤(w1.drew.alloc (.cells #[.int .u8 (IntKind.u8.wrap (F:Int)),.int .u8 (IntKind.u8.wrap (K:Int))] 5)).heap.size by simp)))
   clear ho3 hb3
   refine ⟨_,rfl,SD3.out,fun hHeld=>?_⟩
   refine rgN ?_
   refine rgT 12 ?_
   refine rgT 13 ?_
   refine rgT 14 ?_
   refine rgT 15 ?_
   refine rgT 16 ?_
   refine wpAnyH_done (by kernel_rfl) ?_ _
   obtain ⟨A3,c3,rfl,_,_⟩:=zad HO3.out
   have c2:=SD3.out.c2
   have HAX:=hide SD3.out.v
   have hz3:=SD3.out.bl.size
   have HBL:=hide SD3.out.bl
   go_wp2_with (at_builtin;go_must (refine zag _ rfl (.tmp 50) (.tmp 52) 36 rfl w.heap.size 5 i0 Tryz.underlying36 hi0 hz0 hz1 hz2 (.slice A3 (2+SZ) c3) (2+SZ) ([UInt8.ofNat F,UInt8.ofNat K]++be SZ N) rfl HO3.out lo hi A N c vb rfl HAX.out (by omega) hz3 ?_);intro v4 w4 hown4 hg4 hat4;have HO4:=hide hown4;have HG4:=hide hg4;clear hown4 hg4 hat4)
   go_ret2
   refine ⟨v4,by rw [HE.out];rfl,?_,HBL.out.grown HG4.out hz3 (fun g hg=>(HO3.out.lt g hg).1)⟩
   have hout:zf9 ⟨F0,K,vb⟩=([UInt8.ofNat F,UInt8.ofNat K]++be SZ N)++vb:=by unfold zf9;rw [if_pos HE.out];exact HCC.out
   rw [hout,List.length_append,List.length_append,zbw,HVL.out]
   exact HO4.out
  ·rintro e w2 ⟨rfl,rfl⟩
   refine ⟨_,rfl,hHeld,fun hHeld=>?_⟩
   refine rgN ?_
   refine zaz (w':=w1.drew.alloc (.cells #[.int .u8 (IntKind.u8.wrap (F:Int)),.int .u8 (IntKind.u8.wrap (K:Int))] 5)) (i:=5) (v:=.slice (some ⟨w1.heap.size,0,none⟩) 2 2) rfl (by kernel_rfl) (by rfl) ?_ (hHeld.new _) (fun hHeld=>?_)
   ·(go_simp <;> with_reducible rfl)
   refine rgN ?_
   have SZ1:=SZO.out
   refine zaf (i:=11) rfl (by kernel_rfl) (by rfl) (zea (w1.drew.alloc (.cells #[.int .u8 (IntKind.u8.wrap (F:Int)),.int .u8 (IntKind.u8.wrap (K:Int))] 5)) w1.drew.heap.size (w1.drew.heap.size+1) (some ⟨w1.drew.heap.size,0,none⟩) 2 2 [UInt8.ofNat F,UInt8.ofNat K] (zle w1.drew F K) (by simp) (by decide) N SZ SZ1.1.1 SZ1.1.2 SZ1.2) (fun w=>by kernel_rfl) ?_
   rintro e w3 ⟨v3,rfl,ho3,hb3⟩
   have SD3:=hide (hHeld.on hb3)
   have HO3:=hide (zb1 ho3 (Nat.le_trans ST.out.bl.size (show w1.heap.size≤(w1.drew.alloc (.cells #[.int .u8 (IntKind.u8.wrap (F:Int)),.int .u8 (IntKind.u8.wrap (K:Int))] 5)).heap.size by simp)))
   clear ho3 hb3
   refine ⟨_,rfl,SD3.out,fun hHeld=>?_⟩
   refine rgN ?_
   refine rgT 12 ?_
   refine rgT 13 ?_
   refine rgT 14 ?_
   refine rgT 15 ?_
   refine rgT 16 ?_
   refine wpAnyH_done (by kernel_rfl) ?_ _
   obtain ⟨A3,c3,rfl,_,_⟩:=zad HO3.out
   have c2:=SD3.out.c2
   have HAX:=hide SD3.out.v
   have hz3:=SD3.out.bl.size
   have HBL:=hide SD3.out.bl
   go_wp2_with (at_builtin;go_must (refine zag _ rfl (.tmp 50) (.tmp 52) 36 rfl w.heap.size 5 i0 Tryz.underlying36 hi0 hz0 hz1 hz2 (.slice A3 (2+SZ) c3) (2+SZ) ([UInt8.ofNat F,UInt8.ofNat K]++be SZ N) rfl HO3.out lo hi A N c vb rfl HAX.out (by omega) hz3 ?_);intro v4 w4 hown4 hg4 hat4;have HO4:=hide hown4;have HG4:=hide hg4;clear hown4 hg4 hat4)
   go_ret2
   refine ⟨v4,by rw [HE.out];rfl,?_,HBL.out.grown HG4.out hz3 (fun g hg=>(HO3.out.lt g hg).1)⟩
   have hout:zf9 ⟨F0,K,vb⟩=([UInt8.ofNat F,UInt8.ofNat K]++be SZ N)++vb:=by unfold zf9;rw [if_pos HE.out];exact HCC.out
   rw [hout,List.length_append,List.length_append,zbw,HVL.out]
   exact HO4.out
 ·have hbI:¬ (255:Int)<(N:Int):=by omega
  obtain ⟨F,hF⟩:∃ F,flR ⟨F0,K,vb⟩=F:=⟨_,rfl⟩
  have hFv:F=F0:=by
   rw [← hF]
   unfold flR
   show (if 255<vb.length then (F0:Int).toNat+16 else (F0:Int).toNat)=_
   rw [HVL.out,Int.toNat_natCast]
   first | rw [if_pos hb] | rw [if_neg hb]
  rw [hF] at HC HFS
  obtain ⟨SZ,hSZ⟩:∃ SZ,szR N=SZ:=⟨_,rfl⟩
  have hs2:(if zc2 F=true then 2 else 1:Nat)=SZ:=by
   rw [HFS.out.2,← hSZ]
   show szR vb.length=_
   rw [HVL.out]
  rw [hSZ] at SZO
  have hf9:F<256:=HFS.out.1
  have HCS:=hide (fun (x:World)=>zeJ x F hf9)
  rw [hs2] at HCS
  have HCC:Hid (zbl ⟨F0,K,vb⟩=([UInt8.ofNat F,UInt8.ofNat K]++be SZ N)++vb):=hide (by
   rw [HC.out]
   show ([UInt8.ofNat F,UInt8.ofNat (K:Int).toNat]++be (szR vb.length) vb.length)++vb=_
   rw [Int.toNat_natCast,HVL.out,hSZ])
  clear hF HC hSZ hs2 HFS hf9
  subst hFv
  go_enter Tryz.func40,Tryz.ntmps40
  go_wp2_with (first
    | (go_at_call 43;refine (zaN _ _ _ _).mono ?_;rintro e wq ⟨rfl,rfl⟩;rw [HF.out])
    | (go_at_call 43;refine (zaN _ _ _ _).mono ?_;rintro e wq ⟨rfl,rfl⟩;rw [HK.out]))
  generalize hw1:w.alloc (.cells (rawC ⟨F,K,A,N,c,vb⟩) 89)=w1 at *
  clear hw1 c0 c1 c2
  refine wp_region_held_drew (S:=fun x=>WhS w x lo hi ⟨F,K,A,N,c,vb⟩) (by kernel_rfl) ST.out.drew (fun hHeld=>?_)
  refine rgT 0 ?_
  refine rgV 1 (.int .u8 (IntKind.u8.wrap (F:Int))) ?_ ?_
  ·(intro w' hSw;(try dsimp only at hSw);go_simp <;> rfl)
  refine rgT 2 ?_
  refine rgK 3 (fun w' hSw=>hSw.c1) ?_
  refine rgV 4 (.int .u8 (IntKind.u8.wrap (K:Int))) ?_ ?_
  ·(intro w' hSw;(try dsimp only at hSw);go_simp <;> rfl)
  refine rgT 6 ?_
  refine rgK 7 (fun w' hSw=>hSw.c2) ?_
  refine rgT 8 ?_
  refine rgT 9 ?_
  refine zcw (w1:=w1.drew.alloc (.cells #[.int .u8 (IntKind.u8.wrap (F:Int)),.int .u8 (IntKind.u8.wrap (K:Int))] 5)) (i:=10) (j:=5) (v:=.slice (some ⟨w1.heap.size,0,none⟩) 2 2) rfl rfl (by kernel_rfl) (by rfl) (by rfl) (HCS.out _) (fun w=>by kernel_rfl) ?_ (hHeld.new _) (fun hHeld=>?_) ?_
  ·(go_simp <;> with_reducible rfl)
  ·refine rgN ?_
   refine zaf (i:=10) rfl (by kernel_rfl) (by rfl) (HCS.out _) (fun w=>by kernel_rfl) ?_
   rintro e w2 ⟨rfl,rfl⟩
   refine ⟨_,rfl,hHeld,fun hHeld=>?_⟩
   refine rgN ?_
   have SZ1:=SZO.out
   refine zaf (i:=11) rfl (by kernel_rfl) (by rfl) (zea (w1.drew.alloc (.cells #[.int .u8 (IntKind.u8.wrap (F:Int)),.int .u8 (IntKind.u8.wrap (K:Int))] 5)) w1.drew.heap.size (w1.drew.heap.size+1) (some ⟨w1.drew.heap.size,0,none⟩) 2 2 [UInt8.ofNat F,UInt8.ofNat K] (zle w1.drew F K) (by simp) (by decide) N SZ SZ1.1.1 SZ1.1.2 SZ1.2) (fun w=>by kernel_rfl) ?_
   rintro e w3 ⟨v3,rfl,ho3,hb3⟩
   have SD3:=hide (hHeld.on hb3)
   have HO3:=hide (zb1 ho3 (Nat.le_trans ST.out.bl.size (show w1.heap.size≤(w1.drew.alloc (.cells #[.int .u8 (IntKind.u8.wrap (F:Int)),.int .u8 (IntKind.u8.wrap (K:Int))] 5)).heap.size by simp)))
   clear ho3 hb3
   refine ⟨_,rfl,SD3.out,fun hHeld=>?_⟩
   refine rgN ?_
   refine rgT 12 ?_
   refine rgT 13 ?_
   refine rgT 14 ?_
   refine rgT 15 ?_
   refine rgT 16 ?_
   refine wpAnyH_done (by kernel_rfl) ?_ _
   obtain ⟨A3,c3,rfl,_,_⟩:=zad HO3.out
   have c2:=SD3.out.c2
   have HAX:=hide SD3.out.v
   have hz3:=SD3.out.bl.size
   have HBL:=hide SD3.out.bl
   go_wp2_with (at_builtin;go_must (refine zag _ rfl (.tmp 50) (.tmp 52) 36 rfl w.heap.size 5 i0 Tryz.underlying36 hi0 hz0 hz1 hz2 (.slice A3 (2+SZ) c3) (2+SZ) ([UInt8.ofNat F,UInt8.ofNat K]++be SZ N) rfl HO3.out lo hi A N c vb rfl HAX.out (by omega) hz3 ?_);intro v4 w4 hown4 hg4 hat4;have HO4:=hide hown4;have HG4:=hide hg4;clear hown4 hg4 hat4)
   go_ret2
   refine ⟨v4,by rw [HE.out];rfl,?_,HBL.out.grown HG4.out hz3 (fun g hg=>(HO3.out.lt g hg).1)⟩
   have hout:zf9 ⟨F,K,vb⟩=([UInt8.ofNat F,UInt8.ofNat K]++be SZ N)++vb:=by unfold zf9;rw [if_pos HE.out];exact HCC.out
   rw [hout,List.length_append,List.length_append,zbw,HVL.out]
   exact HO4.out
  ·rintro e w2 ⟨rfl,rfl⟩
   refine ⟨_,rfl,hHeld,fun hHeld=>?_⟩
   refine rgN ?_
   refine zaz (w':=w1.drew.alloc (.cells #[.int .u8 (IntKind.u8.wrap (F:Int)),.int .u8 (IntKind.u8.wrap (K:Int))] 5)) (i:=5) (v:=.slice (some ⟨w1.heap.size,0,none⟩) 2 2) rfl (by kernel_rfl) (by rfl) ?_ (hHeld.new _) (fun hHeld=>?_)
   ·(go_simp <;> with_reducible rfl)
   refine rgN ?_
   have SZ1:=SZO.out
   refine zaf (i:=11) rfl (by kernel_rfl) (by rfl) (zea (w1.drew.alloc (.cells #[.int .u8 (IntKind.u8.wrap (F:Int)),.int .u8 (IntKind.u8.wrap (K:Int))] 5)) w1.drew.heap.size (w1.drew.heap.size+1) (some ⟨w1.drew.heap.size,0,none⟩) 2 2 [UInt8.ofNat F,UInt8.ofNat K] (zle w1.drew F K) (by simp) (by decide) N SZ SZ1.1.1 SZ1.1.2 SZ1.2) (fun w=>by kernel_rfl) ?_
   rintro e w3 ⟨v3,rfl,ho3,hb3⟩
   have SD3:=hide (hHeld.on hb3)
   have HO3:=hide (zb1 ho3 (Nat.le_trans ST.out.bl.size (show w1.heap.size≤(w1.drew.alloc (.cells #[.int .u8 (IntKind.u8.wrap (F:Int)),.int .u8 (IntKind.u8.wrap (K:Int))] 5)).heap.size by simp)))
   clear ho3 hb3
   refine ⟨_,rfl,SD3.out,fun hHeld=>?_⟩
   refine rgN ?_
   refine rgT 12 ?_
   refine rgT 13 ?_
   refine rgT 14 ?_
   refine rgT 15 ?_
   refine rgT 16 ?_
   refine wpAnyH_done (by kernel_rfl) ?_ _
   obtain ⟨A3,c3,rfl,_,_⟩:=zad HO3.out
   have c2:=SD3.out.c2
   have HAX:=hide SD3.out.v
   have hz3:=SD3.out.bl.size
   have HBL:=hide SD3.out.bl
   go_wp2_with (at_builtin;go_must (refine zag _ rfl (.tmp 50) (.tmp 52) 36 rfl w.heap.size 5 i0 Tryz.underlying36 hi0 hz0 hz1 hz2 (.slice A3 (2+SZ) c3) (2+SZ) ([UInt8.ofNat F,UInt8.ofNat K]++be SZ N) rfl HO3.out lo hi A N c vb rfl HAX.out (by omega) hz3 ?_);intro v4 w4 hown4 hg4 hat4;have HO4:=hide hown4;have HG4:=hide hg4;clear hown4 hg4 hat4)
   go_ret2
   refine ⟨v4,by rw [HE.out];rfl,?_,HBL.out.grown HG4.out hz3 (fun g hg=>(HO3.out.lt g hg).1)⟩
   have hout:zf9 ⟨F,K,vb⟩=([UInt8.ofNat F,UInt8.ofNat K]++be SZ N)++vb:=by unfold zf9;rw [if_pos HE.out];exact HCC.out
   rw [hout,List.length_append,List.length_append,zbw,HVL.out]
   exact HO4.out
set_option maxHeartbeats 2000000 in
theorem zs8 (w:World) (lo hi:Nat) (A:Option Addr) (N c:Nat) (f k:Int) (vb:List UInt8) (h:At w lo hi A N vb) (hh:hi≤w.heap.size) (he:zbC ⟨f,k,vb⟩≠0) :
  Calls Tryz.prog 40 #[.agg (rawC ⟨f,k,A,N,c,vb⟩)] w (zdf w ⟨f,k,vb⟩):=by
 have HVL:=hide h.len
 have ST:Hid (WhS w (w.alloc (.cells (rawC ⟨f,k,A,N,c,vb⟩) 89)) lo hi ⟨f,k,A,N,c,vb⟩):=hide ⟨Blk.new w _ _,h.alloc hh _,(Below.refl _ _).alloc (Nat.le_refl _) _,hh⟩
 have c0:=ST.out.c0
 have c1:=ST.out.c1
 have c2:=ST.out.c2
 by_cases h1:0≤f∧f≤255
 ·obtain ⟨F,rfl⟩:∃ F:Nat,f=F:=⟨f.toNat,by omega⟩
  have HF:Hid (decide ((0:Int)≤(F:Int)∧(F:Int)≤255)=true):=hide (decide_eq_true h1)
  have ha:=zwS F (by omega)
  by_cases h2:zc2 F=true
  ·rw [if_pos h2] at ha
   have HE:Hid (zbC ⟨F,k,vb⟩=1):=hide (by
    unfold zbC
    rw [if_pos (.inr (.inr (.inl (by show zc2 (F:Int).toNat=true;rw [Int.toNat_natCast];exact h2))))])
   clear h he h1 h2
   go_enter Tryz.func40,Tryz.ntmps40
   go_wp2_with (go_at_call 43;refine (zaN _ _ _ _).mono ?_;rintro e wq ⟨rfl,rfl⟩;rw [HF.out])
   go_ret2
   exact zdf.no HE.out (by decide) ST.out.bl
  ·rw [if_neg h2] at ha
   have hl:zc2 F=false:=by simpa using h2
   by_cases h3:0≤k∧k≤255
   ·obtain ⟨K,rfl⟩:∃ K:Nat,k=K:=⟨k.toNat,by omega⟩
    have HK:Hid (decide ((0:Int)≤(K:Int)∧(K:Int)≤255)=true):=hide (decide_eq_true h3)
    have hn:¬ (((F:Nat):Int)<0∨255<(F:Int)∨zc2 (F:Int).toNat=true∨(K:Int)<0∨255<(K:Int)):=by
     rw [Int.toNat_natCast,hl]
     intro e
     rcases e with e | e | e | e | e <;> first | omega | cases e
    have h4:4096<vb.length:=by
     by_cases h4:4096<vb.length
     ·exact h4
     ·exact absurd (show zbC ⟨F,K,vb⟩=0 by unfold zbC;rw [if_neg hn,if_neg h4]) he
    have HE:Hid (zbC ⟨F,K,vb⟩=2):=hide (by unfold zbC;rw [if_neg hn,if_pos h4])
    rw [HVL.out] at h4
    have h5:(4096:Int)<(N:Int):=by omega
    clear h he h1 h2 h3 h4 hn hl
    go_enter Tryz.func40,Tryz.ntmps40
    go_wp2_with (first
    | (go_at_call 43;refine (zaN _ _ _ _).mono ?_;rintro e wq ⟨rfl,rfl⟩;rw [HF.out])
    | (go_at_call 43;refine (zaN _ _ _ _).mono ?_;rintro e wq ⟨rfl,rfl⟩;rw [HK.out]))
    go_ret2
    exact zdf.no HE.out (by decide) ST.out.bl
   ·have HK:Hid (decide ((0:Int)≤k∧k≤255)=false):=hide (decide_eq_false h3)
    have HE:Hid (zbC ⟨F,k,vb⟩=1):=hide (by
     unfold zbC
     rw [if_pos (by by_cases h5:k<0;exact .inr (.inr (.inr (.inl h5)));exact .inr (.inr (.inr (.inr (by show 255<k;omega)))))])
    clear h he h1 h2 h3 hl
    go_enter Tryz.func40,Tryz.ntmps40
    go_wp2_with (first
    | (go_at_call 43;refine (zaN _ _ _ _).mono ?_;rintro e wq ⟨rfl,rfl⟩;rw [HF.out])
    | (go_at_call 43;refine (zaN _ _ _ _).mono ?_;rintro e wq ⟨rfl,rfl⟩;rw [HK.out]))
    go_ret2
    exact zdf.no HE.out (by decide) ST.out.bl
 ·have HF:Hid (decide ((0:Int)≤f∧f≤255)=false):=hide (decide_eq_false h1)
  have HE:Hid (zbC ⟨f,k,vb⟩=1):=hide (by
   unfold zbC
   rw [if_pos (by by_cases h5:f<0;exact .inl h5;exact .inr (.inl (by show 255<f;omega)))])
  clear h he h1
  go_enter Tryz.func40,Tryz.ntmps40
  go_wp2_with (go_at_call 43;refine (zaN _ _ _ _).mono ?_;rintro e wq ⟨rfl,rfl⟩;rw [HF.out])
  go_ret2
  exact zdf.no HE.out (by decide) ST.out.bl
theorem zql (w:World) (lo hi:Nat) (x:RawP) (h:At w lo hi x.A x.n x.v) (hh:hi≤w.heap.size) :
  Calls Tryz.prog 40 #[.agg (rawC x)] w (zdf w x.raw):=by
 obtain ⟨f,k,A,N,c,vb⟩:=x
 by_cases he:zbC ⟨f,k,vb⟩=0
 ·by_cases hc:f<0∨255<f∨zc2 f.toNat=true∨k<0∨255<k
  ·unfold zbC at he
   rw [if_pos hc] at he
   exact absurd he (by decide)
  ·obtain ⟨F,rfl⟩:∃ F:Nat,f=F:=⟨f.toNat,by omega⟩
   obtain ⟨K,rfl⟩:∃ K:Nat,k=K:=⟨k.toNat,by omega⟩
   rw [Int.toNat_natCast] at hc
   have hl:zc2 F=false:=by
    cases h9:zc2 F
    ·rfl
    ·exact absurd (.inr (.inr (.inl h9))) hc
   exact zqk w lo hi A N c F K vb h hh (by omega) hl (by omega) (by have:=zhe he;have h2:=h.len;dsimp only at this h2;omega)
 ·exact zs8 w lo hi A N c f k vb h hh he
def zjV (l:List Rw):List UInt8:=if zci l=0 then zbq l else []
def zmv (w:World) (l:List Rw) (e:Ending) (w':World):Prop :=
 ∃ v,e = .returned (.tuple #[v,.int .i64 (zci l)])∧w'.ownsRow w.heap.size 5 1 v (zjV l).length (bvs (zjV l))∧Below w.heap.size w w'
theorem zlN (w:World) (lo hi:Nat) (A:Option Addr) (n c:Nat) (l:List RawP) (h:zb9 w lo hi A n l) (hh:hi≤w.heap.size) (hn:n≤1000000) :
  Calls Tryz.prog 39 #[.slice A n c,.func (.func 40) #[] #[]] w (zmv w (l.map RawP.raw)):=by
 obtain ⟨i0,hi0,hz0,hz1,hz2⟩:=info_parts zbA
 have H:=hide h
 have HXL:=hide h.len
 have HM:Hid (∀ (k:Nat) (x:RawP),l[k]?=some x→(l.map RawP.raw)[k]?=some x.raw):=hide (fun k x hx=>by rw [List.getElem?_map,hx];rfl)
 have HML:Hid ((l.map RawP.raw).length=n):=hide (by rw [List.length_map];exact h.len)
 obtain ⟨L,hL⟩:∃ L,l.map RawP.raw=L:=⟨_,rfl⟩
 rw [hL] at HM HML ⊢
 clear h hL
 go_enter Tryz.func39,Tryz.ntmps39
 go_wp2_with fail
 go_loopw [6,13] (fun v i wr=>∃ (k c3:Nat) (B:Option Addr),k≤n∧v = .slice B (zbq (L.take k)).length c3∧i = .int .i64 k∧wr.ownsRow w.heap.size 5 1 (.slice B (zbq (L.take k)).length c3) (zbq (L.take k)).length (bvs (zbq (L.take k)))∧zci (L.take k)=0∧Below w.heap.size w wr) (fun _ i _=>n-(intOf i).toNat)
 case atStart=>exact ⟨0,0,none,Nat.zero_le _,rfl,rfl,World.ownsRow_nil _ _ _ _,rfl,Below.refl _ _⟩
 case round =>
  obtain ⟨k,c3,B,hk,rfl,rfl,hown,hrt,hbel⟩:=hrel
  have HO:=hide hown
  have WB:=hide hbel
  have HRT:=hide hrt
  clear hown hbel hrt
  by_cases hlt:k<n
  ·have Yr:=hide (H.out.below (w':=wr) (WB.out.mono hh))
   obtain ⟨b,o,x,rfl,hb1,hb2,hx,hat,hv,hnc⟩:=Yr.out.at_ hlt
   have HX:=hide (HM.out k x hx)
   have HAT:=hide hat
   have HV:=hide hv
   have HLEN:Hid ((zbq (L.take k)).length≤k*4100):=hide (by have:=zgg HRT.out;rwa [List.length_take,Nat.min_eq_left (by rw [HML.out];exact hk)] at this)
   have NEW:=hide (Blk.new wr 89 #[.int .i64 0,.int .i64 0,.slice none 0 0])
   clear hx hat hv hnc
   generalize hR:zbq (L.take k)=R at *
   have HRR:=hide hR
   clear hR
   go_wp2_with (first
    | ((with_reducible refine zc4 rfl (.tmp 15) rfl (b:=b) (i:=o+k*3) rfl HAT.out ?_))
    | (refine zcf rfl (.tmp 8) (.tmp 16) rfl wr.heap.size rfl x rfl NEW.out rfl ?_;intro w2 hb2 hg2;have B2:=hide hb2;have W2:Hid (Below wr.heap.size wr w2):=hide (((Below.refl _ _).alloc (Nat.le_refl _) _).grown hg2 (by simp) (by simp));clear hb2 hg2;refine Hid.out ?_))
   refine hide ?_
   have HO2:=hide (zaX HO.out W2.out)
   have WB2:=hide (zaa WB.out W2.out (Nat.le_refl _))
   have HV2:=hide (HV.out.below (W2.out.mono (Nat.le_trans hh WB.out.size)))
   clear NEW
   go_wp2_with (with_reducible refine zbZ rfl (.tmp 8) rfl wr.heap.size rfl B2.out ?_)
   refine (zql w2 lo hi x HV2.out (Nat.le_trans hh WB2.out.size)).mono ?_
   rintro e w3 ⟨v3,rfl,ho3,hb3⟩
   obtain ⟨A3,c4,rfl,_,_⟩:=zad ho3
   have AT3:=hide (At.own ho3)
   have HO3:=hide (zaX HO2.out hb3)
   have WB3:=hide (zaa WB2.out hb3 (Nat.le_refl _))
   clear ho3 hb3 HO2 WB2 HO WB HV HV2
   by_cases he:zbC x.raw=0
   ·have hoB:Hid (zf9 x.raw=zbl x.raw):=hide (by unfold zf9;rw [if_pos he])
    have HS:=hide (zrE x.raw)
    have HNX:=hide (zns HRT.out HX.out he)
    have HCN:=hide (zmo HX.out)
    rw [HRR.out] at HCN
    rw [hoB.out] at HS AT3
    rw [hoB.out,he]
    have hsz:=WB3.out.size
    generalize hcx:zbl x.raw=cx at *
    have HL:=hide HLEN.out
    clear he hcx hoB
    go_wp2_with (at_builtin;go_must (refine zag _ rfl (.tmp 26) (.tmp 27) 36 rfl w.heap.size 5 i0 Tryz.underlying36 hi0 hz0 hz1 hz2 (.slice B R.length c3) R.length R rfl HO3.out _ _ A3 cx.length c4 cx rfl AT3.out (by have h1:=HS.out;have h2:=HL.out;have h3:k*4100≤1000000*4100:=Nat.mul_le_mul_right _ (by omega);omega) hsz ?_);intro v1 w4 hown1 hg4 hat4;rw [← List.length_append,HCN.out] at hown1;have HO1:=hide hown1;have HG4:=hide hg4;clear hown1 hg4 hat4)
    obtain ⟨A4,c5,rfl,_,_⟩:=zad HO1.out
    go_roundw
    case rel=>exact ⟨k+1,c5,A4,by omega,rfl,by go_num,HO1.out,HNX.out,WB3.out.grown HG4.out hsz (fun g hg=>(HO3.out.lt g hg).1)⟩
    case measure=>simp [intOf];omega
   ·have HF:=hide (zmj HRT.out HX.out he)
    have he2:(zbC x.raw != 0)=true:=by simpa using he
    clear he
    go_wp2_with fail
    go_ret2
    refine ⟨.slice none 0 0,by rw [HF.out];rfl,?_,WB3.out⟩
    have ho:zjV L=[]:=by unfold zjV;rw [HF.out,if_neg (by simpa using he2)]
    rw [ho]
    exact World.ownsRow_nil _ _ _ _
  ·have hkn:k=n:=by omega
   subst hkn
   have HT:Hid (L.take k=L):=hide (List.take_of_length_le (by rw [HML.out];exact Nat.le_refl _))
   rw [HT.out] at HO HRT
   have ho:zjV L=zbq L:=by unfold zjV;rw [if_pos HRT.out]
   have HOO:=hide ho
   clear ho
   go_wp2
   go_ret2
   refine ⟨.slice B (zbq L).length c3,?_,?_,WB.out⟩
   ·rw [HRT.out,HT.out];rfl
   ·rw [HOO.out];exact HO.out
def zuN (w:World) (l:List Rw) (e:Ending) (w':World):Prop :=
 ∃ v,e = .returned (.tuple #[v,.int .i64 (zeX l)])∧w'.ownsRow w.heap.size 5 1 v (zdY l).length (bvs (zdY l))∧Below w.heap.size w w'
theorem zsZ (w:World) (lo hi:Nat) (A:Option Addr) (n c:Nat) (l:List RawP) (h:zb9 w lo hi A n l) (hh:hi≤w.heap.size) :
  Calls Tryz.prog 20 #[.slice A n c] w (zuN w (l.map RawP.raw)):=by
 have hl:(l.map RawP.raw).length=n:=by rw [List.length_map];exact h.len
 by_cases h64:64<n
 ·have h64I:(64:Int)<(n:Int):=by omega
  have HE:Hid (zeX (l.map RawP.raw)=2):=hide (by unfold zeX;rw [if_pos (by omega)])
  clear h h64 hl
  go_enter Tryz.func20,Tryz.ntmps20
  go_wp2
  go_ret2
  refine ⟨.slice none 0 0,by rw [HE.out];rfl,?_,Below.refl _ _⟩
  unfold zdY
  rw [HE.out]
  exact World.ownsRow_nil _ _ _ _
 ·have h64I:¬ (64:Int)<(n:Int):=by omega
  have HE:Hid (zeX (l.map RawP.raw)=zci (l.map RawP.raw)):=hide (by unfold zeX;rw [if_neg (by omega)])
  have HC:=hide (zlN w lo hi A n c l h hh (by omega))
  clear h h64 hl
  go_enter Tryz.func20,Tryz.ntmps20
  go_wp2_with fail
  refine HC.out.mono ?_
  rintro e w1 ⟨v,rfl,ho,hb⟩
  go_wp2
  go_ret2
  refine ⟨v,by rw [HE.out];rfl,?_,hb⟩
  unfold zdY
  rw [HE.out]
  exact ho
end
section
open Go.RowKit
def zb8 (x:Nat) (last:Bool):List UInt8:=be 3 (x*16+(if last then 1 else 0))
def zdw (bs:List UInt8):Bool:=decide (bs.length=3∧big bs%16≤1)
def zdG (bs:List UInt8):Int:=if zdw bs then ((big bs/16:Nat):Int) else 0
def zfx (bs:List UInt8):Bool:=zdw bs&&decide (big bs%2=1)
def zg4 (bs:List UInt8):Int:=if zdw bs then 0 else 4
theorem zrj {bs:List UInt8} (h:zdw bs=false):zdG bs=0∧zfx bs=false∧zg4 bs=4:=by
 unfold zdG zfx zg4
 rw [h]
 exact ⟨rfl,rfl,rfl⟩
theorem zkA {bs:List UInt8} (h:zdw bs=true):zdG bs=((big bs/16:Nat):Int)∧zfx bs=decide (big bs%2=1)∧zg4 bs=0:=by
 unfold zdG zfx zg4
 rw [h]
 exact ⟨rfl,rfl,rfl⟩
end
section
open Go.RowKit
structure Tun where
 leaf:Bool
 k:Int
 l:Int
 s:Int
 bs:List UInt8
 id:List UInt8
def zdb (k s:Int) (id:List UInt8):Bool :=
 if k=0 then decide (s=0∧id.length=0)
 else if k=1 then decide (s=4∧id.length=6)
 else if k=2∨k=7 then decide (0<s∧id.length≤64)
 else if k=3∨k=4∨k=5 then decide (s=id.length)&&zcG (ofS id) (ofB id)
 else if k=6 then decide (0<s∧id.length=0)
 else false
def zbO (t:Tun):Bool:=decide (0≤t.l∧t.l≤1048575)&&(zaC t.s t.bs&&zdb t.k t.s t.id)
def zd3 (k s:Int):List UInt8:=[if k=7 then 7 else 6,0,if s=16 then 2 else 1,UInt8.ofNat s.toNat]
def zbe (k s:Int) (bs id:List UInt8):List UInt8 :=
 if k=1 then id.take 4++([0,0]++(id.drop 4++zar s bs))
 else if k=2∨k=7 then zd3 k s++(zar s bs++(be 2 id.length++id))
 else if k=3∨k=4∨k=5 then zar s bs++id
 else zar s bs
def zlZ (t:Tun):List UInt8:=[if t.leaf then 1 else 0,UInt8.ofNat t.k.toNat]
def zb7 (t:Tun):List UInt8:=zlZ t++(zb8 t.l.toNat false++zbe t.k t.s t.bs t.id)
def zc9 (k:Int) (r:List UInt8):List UInt8 × List UInt8 :=
 if k=1 then (zae (zae (zae r 4) 2) 2,zab r 4++zab (zae (zae r 4) 2) 2)
 else if k=2∨k=7 then (zab (zae (zae r 3) 1) (big (zab (zae r 3) 1):Nat),zae (zae (zae (zae r 3) 1) (big (zab (zae r 3) 1):Nat)) 2)
 else if k=3∨k=4∨k=5 then (zab r ((r.length/2:Nat):Int),zae r ((r.length/2:Nat):Int))
 else (r,[])
def zjZ (b:List UInt8):Bool:=decide (big (zab b 1)=1)
def zhP (b:List UInt8):Nat:=big (zab (zae b 1) 1)
def numR (b:List UInt8):Int:=zdG (zab (zae (zae b 1) 1) 3)
def zkp (b:List UInt8):List UInt8:=zae (zae (zae b 1) 1) 3
def zeW (b:List UInt8):Tun :=
 ⟨zjZ b,zhP b,numR b,ofS (zc9 (zhP b) (zkp b)).1,ofB (zc9 (zhP b) (zkp b)).1,(zc9 (zhP b) (zkp b)).2⟩
def zt4:Tun:=⟨false,0,0,0,zav,[]⟩
def zgy (b:List UInt8):Bool:=zbO (zeW b)&&decide (zb7 (zeW b)=b)
def zcg (b:List UInt8):Tun:=if zgy b then zeW b else zt4
def zjU (b:List UInt8):Int:=if zgy b then 0 else 4
theorem zfE {k s:Int} {id:List UInt8} (h:zdb k s id=true):k=0∨k=1∨k=2∨k=3∨k=4∨k=5∨k=6∨k=7:=by
 unfold zdb at h
 by_cases h0:k=0
 ·omega
 ·by_cases h1:k=1
  ·omega
  ·by_cases h2:k=2∨k=7
   ·omega
   ·by_cases h3:k=3∨k=4∨k=5
    ·omega
    ·by_cases h6:k=6
     ·omega
     ·rw [if_neg h0,if_neg h1,if_neg h2,if_neg h3,if_neg h6] at h
      cases h
theorem zcU {s:Int} {bs:List UInt8} (h:zaC s bs=true):s=0∨s=4∨s=16:=by
 unfold zaC at h
 simp only [Bool.and_eq_true] at h
 exact of_decide_eq_true h.1
theorem zwg {s:Nat} {bs:List UInt8} (hl:bs.length=16) (hs:s≤16) (hz:(bs.drop s).all (· == 0)=true):pad (bs.take s)=bs:=by
 unfold pad
 have h1:(bs.take s).length=s:=by rw [List.length_take];omega
 rw [h1]
 have h2:bs.drop s=List.replicate (16-s) 0:=by
  rw [List.eq_replicate_iff]
  refine ⟨by rw [List.length_drop,hl],fun b hb=>?_⟩
  rw [List.all_eq_true] at hz
  exact eq_of_beq (hz b hb)
 rw [← h2,List.take_append_drop]
theorem zdT {s:Int} {bs:List UInt8} (hl:bs.length=16) (h:zaC s bs=true):(zar s bs).length=s.toNat:=by
 have:=zcU h
 unfold zar
 rw [if_pos h,List.length_take]
 omega
theorem zgz {s:Int} {bs:List UInt8} (hl:bs.length=16) (h:zaC s bs=true):ofS (zar s bs)=s∧ofB (zar s bs)=bs:=by
 have h3:=zcU h
 have hn:=zdT hl h
 have hs:zdh (zar s bs).length=true:=by
  rw [hn];unfold zdh;exact decide_eq_true (by omega)
 unfold ofS ofB
 rw [if_pos hs,if_pos hs]
 refine ⟨by rw [hn];omega,?_⟩
 have hz:(bs.drop s.toNat).all (· == 0)=true:=by
  unfold zaC at h
  simp only [Bool.and_eq_true] at h
  exact h.2
 unfold zar
 rw [if_pos h]
 exact zwg hl (by omega) hz
theorem zm5 {k s:Int} {bs id:List UInt8} (hl:bs.length=16) (hr:zaC s bs=true) (h:zdb k s id=true):zc9 k (zbe k s bs id)=(zar s bs,id):=by
 have hs:=zcU hr
 have hn:=zdT hl hr
 have hk:=zfE h
 unfold zdb at h
 unfold zc9 zbe
 by_cases h1:k=1
 ·subst h1
  simp only [Int.reduceEq,if_false,if_true,decide_eq_true_eq] at h
  rw [if_pos rfl,if_pos rfl]
  have h4:(id.take 4).length=4:=by rw [List.length_take];omega
  have h2:(id.drop 4).length=2:=by rw [List.length_drop];omega
  obtain ⟨a1,a2⟩:=zcN (xs:=id.take 4) (ys:=[0,0]++(id.drop 4++zar s bs)) (n:=4) (by rw [h4];rfl)
  obtain ⟨b1,b2⟩:=zcN (xs:=[0,0]) (ys:=id.drop 4++zar s bs) (n:=2) rfl
  obtain ⟨c1,c2⟩:=zcN (xs:=id.drop 4) (ys:=zar s bs) (n:=2) (by rw [h2];rfl)
  rw [a1,a2,b2,c1,c2,List.take_append_drop]
 ·by_cases h2:k=2∨k=7
  ·rw [if_neg h1,if_pos h2,if_neg h1,if_pos h2]
   obtain ⟨a1,a2⟩:=zcN (xs:=[if k=7 then 7 else 6,0,if s=16 then 2 else 1]) (ys:=[UInt8.ofNat s.toNat]++(zar s bs++(be 2 id.length++id))) (n:=3) rfl
   have e0:zd3 k s++(zar s bs++(be 2 id.length++id))=[if k=7 then 7 else 6,0,if s=16 then 2 else 1]++([UInt8.ofNat s.toNat]++(zar s bs++(be 2 id.length++id))):=rfl
   rw [e0,a2]
   obtain ⟨b1,b2⟩:=zcN (xs:=[UInt8.ofNat s.toNat]) (ys:=zar s bs++(be 2 id.length++id)) (n:=1) rfl
   rw [b1,b2]
   have hb:big [UInt8.ofNat s.toNat]=s.toNat:=by rcases hs with rfl | rfl | rfl <;> rfl
   rw [hb]
   obtain ⟨c1,c2⟩:=zcN (xs:=zar s bs) (ys:=be 2 id.length++id) (n:=(s.toNat:Nat)) (by rw [hn])
   obtain ⟨d1,d2⟩:=zcN (xs:=be 2 id.length) (ys:=id) (n:=2) (by rw [zbw];rfl)
   rw [c1,c2,d2]
  ·by_cases h3:k=3∨k=4∨k=5
   ·rw [if_neg h1,if_neg h2,if_pos h3,if_neg h1,if_neg h2,if_pos h3]
    have h0:¬ k=0:=by omega
    rw [if_neg h0,if_neg h1,if_neg h2,if_pos h3] at h
    simp only [Bool.and_eq_true,decide_eq_true_eq] at h
    have he:(zar s bs++id).length/2=(zar s bs).length:=by
     rw [List.length_append];omega
    rw [he]
    obtain ⟨c1,c2⟩:=zcN (xs:=zar s bs) (ys:=id) (n:=((zar s bs).length:Nat)) rfl
    rw [c1,c2]
   ·rw [if_neg h1,if_neg h2,if_neg h3,if_neg h1,if_neg h2,if_neg h3]
    have hid:id=[]:=by
     rcases (show k=0∨k=6 by omega) with rfl | rfl
     ·simp only [if_true,decide_eq_true_eq] at h
      exact List.eq_nil_of_length_eq_zero h.2
     ·simp at h
      exact h.2
    rw [hid]
theorem zsr (t:Tun) (hk:0≤t.k∧t.k≤7) (hl:0≤t.l∧t.l≤1048575):zjZ (zb7 t)=t.leaf∧((zhP (zb7 t):Nat):Int)=t.k∧numR (zb7 t)=t.l∧zkp (zb7 t)=zbe t.k t.s t.bs t.id:=by
 obtain ⟨lf,k,l,s,bs,id⟩:=t
 simp only at hk hl
 obtain ⟨a1,a2⟩:=zcN (xs:=[if lf then 1 else 0]) (ys:=[UInt8.ofNat k.toNat]++(zb8 l.toNat false++zbe k s bs id)) (n:=1) rfl
 obtain ⟨b1,b2⟩:=zcN (xs:=[UInt8.ofNat k.toNat]) (ys:=zb8 l.toNat false++zbe k s bs id) (n:=1) rfl
 obtain ⟨c1,c2⟩:=zcN (xs:=zb8 l.toNat false) (ys:=zbe k s bs id) (n:=3) (by unfold zb8;rw [zbw];rfl)
 have e0:zb7 ⟨lf,k,l,s,bs,id⟩=[if lf then 1 else 0]++([UInt8.ofNat k.toNat]++(zb8 l.toNat false++zbe k s bs id)):=rfl
 rw [e0]
 unfold zjZ zhP numR zkp
 rw [a1,a2,b1,b2,c1,c2]
 have hn:zdG (zb8 l.toNat false)=l:=by
  have hb:big (zb8 l.toNat false)=l.toNat*16:=by
   unfold zb8
   rw [zka 3 _ (by simp;omega)]
   simp
  have hok:zdw (zb8 l.toNat false)=true:=by
   unfold zdw
   rw [hb]
   exact decide_eq_true ⟨by unfold zb8;rw [zbw],by omega⟩
  rw [(zkA hok).1,hb]
  omega
 refine ⟨?_,?_,hn,rfl⟩
 ·cases lf <;> rfl
 ·rcases (show k=0∨k=1∨k=2∨k=3∨k=4∨k=5∨k=6∨k=7 by omega) with rfl | rfl | rfl | rfl | rfl | rfl | rfl | rfl <;> rfl
theorem zrk (t:Tun) (hl:t.bs.length=16) (h:zbO t=true):zeW (zb7 t)=t:=by
 unfold zbO at h
 simp only [Bool.and_eq_true,decide_eq_true_eq] at h
 obtain ⟨h1,h2,h3⟩:=h
 have hk:=zfE h3
 obtain ⟨a,b,c,d⟩:=zsr t (by omega) h1
 unfold zeW
 rw [a,b,c,d,zm5 hl h2 h3]
 simp only [(zgz hl h2).1,(zgz hl h2).2]
theorem zpp (t:Tun) (hl:t.bs.length=16) (h:zbO t=true):zgy (zb7 t)=true∧zcg (zb7 t)=t∧zjU (zb7 t)=0:=by
 have h1:=zrk t hl h
 have h2:zgy (zb7 t)=true:=by
  unfold zgy
  rw [h1,h]
  exact decide_eq_true rfl
 refine ⟨h2,?_,?_⟩
 ·unfold zcg;rw [if_pos h2,h1]
 ·unfold zjU;rw [if_pos h2]
theorem zb2 (xs:List UInt8):(ofB xs).length=16:=by
 unfold ofB
 split
 ·rename_i h
  have:xs.length≤16:=by
   have h':((xs.length:Nat):Int)=0∨((xs.length:Nat):Int)=4∨((xs.length:Nat):Int)=16:=of_decide_eq_true h
   omega
  unfold pad
  rw [List.length_append,List.length_replicate]
  omega
 ·rfl
theorem zol (b:List UInt8):(zeW b).bs.length=16:=zb2 _
theorem zrB (b:List UInt8):(zcg b).bs.length=16:=by
 unfold zcg
 split
 ·exact zol b
 ·rfl
end
end Go.Proofs.YtookpplebikfnaaGreatDoor
