/-
  What within, whole, rows.Write of attributes, and Join of package attr do, in whatever memory. No condition beyond sizes that fit memory.
  Labels in bytes, as plain functions. No condition.
  Tunnels as plain data: which are right, their bytes, and what is read of bytes. No condition. Nothing here speaks of the program.
  Plain mathematics of sets of rows of eight bytes: rising, each once. Nothing here speaks of the program.
  Rows of elements of eight bytes: how they read in memory, a piece of one, an element of one; a row of the call's own; append. No condition. Nothing here speaks of the program.
  Plain mathematics of path attributes: which are right, what is written of them, and that what is written says them. Nothing here speaks of the program.
-/
import Derived.Lib.SlicesCompact
import Derived.Sort.Statements
import Derived.Shelf.GgSortFunc.RowK
import Derived.Test.YthgainmcnjldaaaGreatDoorKLAE
set_option linter.unusedVariables false
set_option linter.unusedSimpArgs false
namespace Go.Proofs.YthgainmcnjldaaaGreatDoor
section
set_option maxRecDepth 20000
set_option maxHeartbeats 3000000
open Go.RowKit
theorem zaD (w:World) (n lo hi:Int):Calls Tryz.prog 95 #[.int .i64 n,.int .i64 lo,.int .i64 hi] w fun e w'=>e = .returned (.bool (decide (lo≤n∧n≤hi)))∧w=w':=by
 by_cases h1:lo≤n
 ·by_cases h2:n≤hi
  ·rw [decide_eq_true (show lo≤n∧n≤hi from ⟨h1,h2⟩)]
   go_enter Tryz.func95,Tryz.ntmps95
   go_wp2
   go_ret
   exact ⟨rfl,rfl⟩
  ·rw [decide_eq_false (show ¬ (lo≤n∧n≤hi) from fun h=>h2 h.2)]
   go_enter Tryz.func95,Tryz.ntmps95
   go_wp2
   go_ret
   exact ⟨rfl,rfl⟩
 ·rw [decide_eq_false (show ¬ (lo≤n∧n≤hi) from fun h=>h1 h.1)]
  go_enter Tryz.func95,Tryz.ntmps95
  go_wp2
  go_ret
  exact ⟨rfl,rfl⟩
theorem zjC (w:World) (F K:Nat):At (w.alloc (.cells #[.int .u8 (IntKind.u8.wrap (F:Int)),.int .u8 (IntKind.u8.wrap (K:Int))] 5)) w.heap.size (w.heap.size+1) (some ⟨w.heap.size,0,none⟩) 2 [UInt8.ofNat F,UInt8.ofNat K]:=by
 rw [wrap8,wrap8]
 refine ⟨rfl,fun _=>⟨_,_,rfl,Nat.le_refl _,by omega,fun j u hu=>?_⟩⟩
 have hB:=Blk.new w 5 #[.int .u8 ((UInt8.ofNat F).toNat:Int),.int .u8 ((UInt8.ofNat K).toNat:Int)]
 rw [show (0:Nat)+j=j by omega,hB.cell]
 match j,hu with
 | 0,hu=>simp at hu;subst hu;rfl
 | 1,hu=>simp at hu;subst hu;rfl
structure WhS (w x:World) (lo hi:Nat) (r:RawP):Prop where
 b:Blk x w.heap.size 179 (rawC r)
 v:At x lo hi r.A r.n r.v
 bl:Below w.heap.size w x
 hh:hi≤w.heap.size
section
variable {w x y:World} {lo hi:Nat} {r:RawP}
theorem WhS.on (h:WhS w x lo hi r) (hb:Below x.heap.size x y):WhS w y lo hi r:=⟨h.b.over hb,h.v.below (hb.mono (Nat.le_trans h.hh h.bl.size)),zaa h.bl hb (Nat.le_refl _),h.hh⟩
theorem WhS.new (h:WhS w x lo hi r) (o:Obj):WhS w (x.alloc o) lo hi r:=h.on ((Below.refl _ _).alloc (Nat.le_refl _) _)
theorem WhS.drew (h:WhS w x lo hi r):WhS w x.drew lo hi r:=⟨h.b.drew,h.v.drew,zak h.bl,h.hh⟩
theorem WhS.c0 (h:WhS w x lo hi r):x.cell? ⟨w.heap.size,0,none⟩=some (.int .i64 r.f):=h.b.cell 0
theorem WhS.c1 (h:WhS w x lo hi r):x.cell? ⟨w.heap.size,1,none⟩=some (.int .i64 r.k):=h.b.cell 1
theorem WhS.c2 (h:WhS w x lo hi r):x.cell? ⟨w.heap.size,2,none⟩=some (.slice r.A r.n r.c):=h.b.cell 2
end
def zcc (w:World) (r:Rw) (e:Ending) (w':World):Prop :=
 ∃ v,e = .returned (.tuple #[v,.int .i64 (za0 r)])∧w'.ownsRow w.heap.size 5 1 v (ze1 r).length (bvs (ze1 r))∧Below w.heap.size w w'
theorem zcc.no {w w':World} {r:Rw} {k:Int} (h:za0 r=k) (hk:k≠0) (hb:Below w.heap.size w w'):zcc w r (.returned (.tuple #[.slice none 0 0,.int .i64 k])) w':=by
 refine ⟨.slice none 0 0,by rw [h],?_,hb⟩
 unfold ze1
 rw [if_neg (by rw [h];exact hk)]
 exact World.ownsRow_nil _ _ _ _
theorem zod (w:World) (lo hi:Nat) (A:Option Addr) (N c F0 K:Nat) (vb:List UInt8) (h:At w lo hi A N vb) (hh:hi≤w.heap.size) (hF0:F0<256) (hl:zcA F0=false) (hK:K<256) (hn:N≤4096) :
  Calls Tryz.prog 114 #[.agg (rawC ⟨F0,K,A,N,c,vb⟩)] w (zcc w ⟨F0,K,vb⟩):=by
 obtain ⟨i0,hi0,hz0,hz1,hz2⟩:=info_parts za4
 have HVL:=hide h.len
 have ST:Hid (WhS w (w.alloc (.cells (rawC ⟨F0,K,A,N,c,vb⟩) 179)) lo hi ⟨F0,K,A,N,c,vb⟩):=hide ⟨Blk.new w _ _,h.alloc hh _,(Below.refl _ _).alloc (Nat.le_refl _) _,hh⟩
 have c0:=ST.out.c0
 have c1:=ST.out.c1
 have c2:=ST.out.c2
 have ha:bits .and .i64 (F0:Int) 16=0:=by rw [zt0 F0 hF0,hl];rfl
 have ho:=or16 F0 hF0 hl
 have HF:Hid (decide ((0:Int)≤(F0:Int)∧(F0:Int)≤255)=true):=hide (decide_eq_true ⟨by omega,by omega⟩)
 have HK:Hid (decide ((0:Int)≤(K:Int)∧(K:Int)≤255)=true):=hide (decide_eq_true ⟨by omega,by omega⟩)
 have HE:Hid (za0 ⟨F0,K,vb⟩=0):=hide (by
  unfold za0
  rw [if_neg (by show ¬ ((F0:Int)<0∨255<(F0:Int)∨zcA (F0:Int).toNat=true∨(K:Int)<0∨255<(K:Int));rw [Int.toNat_natCast,hl];intro e;rcases e with e | e | e | e | e <;> first | omega | cases e),if_neg (by show ¬ 4096<vb.length;rw [h.len];omega)])
 have HC:=hide (zqg ⟨F0,K,vb⟩)
 have SZO:Hid ((1≤szR N∧szR N≤4)∧N<256^szR N):=hide (zst hn)
 have HFS:=hide (zrT (x:=⟨F0,K,vb⟩) (by show (0:Int)≤(F0:Int);omega) (by show (F0:Int)≤255;omega) (by show zcA (F0:Int).toNat=false;rw [Int.toNat_natCast];exact hl))
 have hAt:=hide h
 have hgt:¬ (4096:Int)<(N:Int):=by omega
 clear h hl
 by_cases hb:255<N
 ·have hbI:(255:Int)<(N:Int):=by omega
  obtain ⟨F,hF⟩:∃ F,flR ⟨F0,K,vb⟩=F:=⟨_,rfl⟩
  have hFv:F=F0+16:=by
   rw [← hF]
   unfold flR
   show (if 255<vb.length then (F0:Int).toNat+16 else (F0:Int).toNat)=_
   rw [HVL.out,Int.toNat_natCast]
   first | rw [if_pos hb] | rw [if_neg hb]
  rw [hF] at HC HFS
  obtain ⟨SZ,hSZ⟩:∃ SZ,szR N=SZ:=⟨_,rfl⟩
  have hs2:(if zcA F=true then 2 else 1:Nat)=SZ:=by
   rw [HFS.out.2,← hSZ]
   show szR vb.length=_
   rw [HVL.out]
  rw [hSZ] at SZO
  have hf9:F<256:=HFS.out.1
  have HCS:=hide (fun (x:World)=>zfB x F hf9)
  rw [hs2] at HCS
  have HCC:Hid (zcH ⟨F0,K,vb⟩=([UInt8.ofNat F,UInt8.ofNat K]++be SZ N)++vb):=hide (by
   rw [HC.out]
   show ([UInt8.ofNat F,UInt8.ofNat (K:Int).toNat]++be (szR vb.length) vb.length)++vb=_
   rw [Int.toNat_natCast,HVL.out,hSZ])
  clear hF HC hSZ hs2 HFS hf9
  rw [← hFv] at ho;clear hFv
  go_enter Tryz.func114,Tryz.ntmps114
  go_wp2_with (first
    | (go_at_call 95;refine (zaD _ _ _ _).mono ?_;rintro e wq ⟨rfl,rfl⟩;rw [HF.out])
    | (go_at_call 95;refine (zaD _ _ _ _).mono ?_;rintro e wq ⟨rfl,rfl⟩;rw [HK.out]))
  generalize hw1:w.alloc (.cells (rawC ⟨F0,K,A,N,c,vb⟩) 179)=w1 at *
  clear hw1 c0 c1 c2
  refine wp_region_held_drew (S:=fun x=>WhS w x lo hi ⟨F0,K,A,N,c,vb⟩) (by kernel_rfl) ST.out.drew (fun hHeld=>?_)
  refine rgT 0 ?_
  refine rgV 1 (.int .u8 (IntKind.u8.wrap (F:Int))) ?_ ?_
  ·(intro w' hSw;(try dsimp only at hSw);go_simp <;> rfl)
  refine rgT 2 ?_
  refine rgK 3 (fun w' hSw=>hSw.c1) ?_
  refine rgV 4 (.int .u8 (IntKind.u8.wrap (K:Int))) ?_ ?_
  ·(intro w' hSw;(try dsimp only at hSw);go_simp <;> rfl)
  refine rgT 6 ?_
  refine rgK 7 (fun w' hSw=>hSw.c2) ?_
  refine rgT 8 ?_
  refine rgT 9 ?_
  refine zcX (w1:=w1.drew.alloc (.cells #[.int .u8 (IntKind.u8.wrap (F:Int)),.int .u8 (IntKind.u8.wrap (K:Int))] 5)) (i:=10) (j:=5) (v:=.slice (some ⟨w1.heap.size,0,none⟩) 2 2) rfl rfl (by kernel_rfl) (by rfl) (by rfl) (HCS.out _) (fun w=>by kernel_rfl) ?_ (hHeld.new _) (fun hHeld=>?_) ?_
  ·(go_simp <;> with_reducible rfl)
  ·refine rgN ?_
   refine zag (i:=10) rfl (by kernel_rfl) (by rfl) (HCS.out _) (fun w=>by kernel_rfl) ?_
   rintro e w2 ⟨rfl,rfl⟩
   refine ⟨_,rfl,hHeld,fun hHeld=>?_⟩
   refine rgN ?_
   have SZ1:=SZO.out
   refine zag (i:=11) rfl (by kernel_rfl) (by rfl) (zdj (w1.drew.alloc (.cells #[.int .u8 (IntKind.u8.wrap (F:Int)),.int .u8 (IntKind.u8.wrap (K:Int))] 5)) w1.drew.heap.size (w1.drew.heap.size+1) (some ⟨w1.drew.heap.size,0,none⟩) 2 2 [UInt8.ofNat F,UInt8.ofNat K] (zjC w1.drew F K) (by simp) (by decide) N SZ SZ1.1.1 SZ1.1.2 SZ1.2) (fun w=>by kernel_rfl) ?_
   rintro e w3 ⟨v3,rfl,ho3,hb3⟩
   have SD3:=hide (hHeld.on hb3)
   have HO3:=hide (zb8 ho3 (Nat.le_trans ST.out.bl.size (show w1.heap.size≤(w1.drew.alloc (.cells #[.int .u8 (IntKind.u8.wrap (F:Int)),.int .u8 (IntKind.u8.wrap (K:Int))] 5)).heap.size by simp)))
   clear ho3 hb3
   refine ⟨_,rfl,SD3.out,fun hHeld=>?_⟩
   refine rgN ?_
   refine rgT 12 ?_
   refine rgT 13 ?_
   refine rgT 14 ?_
   refine rgT 15 ?_
   refine rgT 16 ?_
   refine wpAnyH_done (by kernel_rfl) ?_ _
   obtain ⟨A3,c3,rfl,_,_⟩:=zac HO3.out
   have c2:=SD3.out.c2
   have HAX:=hide SD3.out.v
   have hz3:=SD3.out.bl.size
   have HBL:=hide SD3.out.bl
   go_wp2_with (at_builtin;go_must (refine zad _ rfl (.tmp 50) (.tmp 52) 22 rfl w.heap.size 5 i0 Tryz.underlying22 hi0 hz0 hz1 hz2 (.slice A3 (2+SZ) c3) (2+SZ) ([UInt8.ofNat F,UInt8.ofNat K]++be SZ N) rfl HO3.out lo hi A N c vb rfl HAX.out (by omega) hz3 ?_);intro v4 w4 hown4 hg4 hat4;have HO4:=hide hown4;have HG4:=hide hg4;clear hown4 hg4 hat4)
   go_ret2
   refine ⟨v4,by rw [HE.out];rfl,?_,HBL.out.grown HG4.out hz3 (fun g hg=>(HO3.out.lt g hg).1)⟩
   have hout:ze1 ⟨F0,K,vb⟩=([UInt8.ofNat F,UInt8.ofNat K]++be SZ N)++vb:=by unfold ze1;rw [if_pos HE.out];exact HCC.out
   rw [hout,List.length_append,List.length_append,zaW,HVL.out]
   exact HO4.out
  ·rintro e w2 ⟨rfl,rfl⟩
   refine ⟨_,rfl,hHeld,fun hHeld=>?_⟩
   refine rgN ?_
   refine zaZ (w':=w1.drew.alloc (.cells #[.int .u8 (IntKind.u8.wrap (F:Int)),.int .u8 (IntKind.u8.wrap (K:Int))] 5)) (i:=5) (v:=.slice (some ⟨w1.heap.size,0,none⟩) 2 2) rfl (by kernel_rfl) (by rfl) ?_ (hHeld.new _) (fun hHeld=>?_)
   ·(go_simp <;> with_reducible rfl)
   refine rgN ?_
   have SZ1:=SZO.out
   refine zag (i:=11) rfl (by kernel_rfl) (by rfl) (zdj (w1.drew.alloc (.cells #[.int .u8 (IntKind.u8.wrap (F:Int)),.int .u8 (IntKind.u8.wrap (K:Int))] 5)) w1.drew.heap.size (w1.drew.heap.size+1) (some ⟨w1.drew.heap.size,0,none⟩) 2 2 [UInt8.ofNat F,UInt8.ofNat K] (zjC w1.drew F K) (by simp) (by decide) N SZ SZ1.1.1 SZ1.1.2 SZ1.2) (fun w=>by kernel_rfl) ?_
   rintro e w3 ⟨v3,rfl,ho3,hb3⟩
   have SD3:=hide (hHeld.on hb3)
   have HO3:=hide (zb8 ho3 (Nat.le_trans ST.out.bl.size (show w1.heap.size≤(w1.drew.alloc (.cells #[.int .u8 (IntKind.u8.wrap (F:Int)),.int .u8 (IntKind.u8.wrap (K:Int))] 5)).heap.size by simp)))
   clear ho3 hb3
   refine ⟨_,rfl,SD3.out,fun hHeld=>?_⟩
   refine rgN ?_
   refine rgT 12 ?_
   refine rgT 13 ?_
   refine rgT 14 ?_
   refine rgT 15 ?_
   refine rgT 16 ?_
   refine wpAnyH_done (by kernel_rfl) ?_ _
   obtain ⟨A3,c3,rfl,_,_⟩:=zac HO3.out
   have c2:=SD3.out.c2
   have HAX:=hide SD3.out.v
   have hz3:=SD3.out.bl.size
   have HBL:=hide SD3.out.bl
   go_wp2_with (at_builtin;go_must (refine zad _ rfl (.tmp 50) (.tmp 52) 22 rfl w.heap.size 5 i0 Tryz.underlying22 hi0 hz0 hz1 hz2 (.slice A3 (2+SZ) c3) (2+SZ) ([UInt8.ofNat F,UInt8.ofNat K]++be SZ N) rfl HO3.out lo hi A N c vb rfl HAX.out (by omega) hz3 ?_);intro v4 w4 hown4 hg4 hat4;have HO4:=hide hown4;have HG4:=hide hg4;clear hown4 hg4 hat4)
   go_ret2
   refine ⟨v4,by rw [HE.out];rfl,?_,HBL.out.grown HG4.out hz3 (fun g hg=>(HO3.out.lt g hg).1)⟩
   have hout:ze1 ⟨F0,K,vb⟩=([UInt8.ofNat F,UInt8.ofNat K]++be SZ N)++vb:=by unfold ze1;rw [if_pos HE.out];exact HCC.out
   rw [hout,List.length_append,List.length_append,zaW,HVL.out]
   exact HO4.out
 ·have hbI:¬ (255:Int)<(N:Int):=by omega
  obtain ⟨F,hF⟩:∃ F,flR ⟨F0,K,vb⟩=F:=⟨_,rfl⟩
  have hFv:F=F0:=by
   rw [← hF]
   unfold flR
   show (if 255<vb.length then (F0:Int).toNat+16 else (F0:Int).toNat)=_
   rw [HVL.out,Int.toNat_natCast]
   first | rw [if_pos hb] | rw [if_neg hb]
  rw [hF] at HC HFS
  obtain ⟨SZ,hSZ⟩:∃ SZ,szR N=SZ:=⟨_,rfl⟩
  have hs2:(if zcA F=true then 2 else 1:Nat)=SZ:=by
   rw [HFS.out.2,← hSZ]
   show szR vb.length=_
   rw [HVL.out]
  rw [hSZ] at SZO
  have hf9:F<256:=HFS.out.1
  have HCS:=hide (fun (x:World)=>zfB x F hf9)
  rw [hs2] at HCS
  have HCC:Hid (zcH ⟨F0,K,vb⟩=([UInt8.ofNat F,UInt8.ofNat K]++be SZ N)++vb):=hide (by
   rw [HC.out]
   show ([UInt8.ofNat F,UInt8.ofNat (K:Int).toNat]++be (szR vb.length) vb.length)++vb=_
   rw [Int.toNat_natCast,HVL.out,hSZ])
  clear hF HC hSZ hs2 HFS hf9
  subst hFv
  go_enter Tryz.func114,Tryz.ntmps114
  go_wp2_with (first
    | (go_at_call 95;refine (zaD _ _ _ _).mono ?_;rintro e wq ⟨rfl,rfl⟩;rw [HF.out])
    | (go_at_call 95;refine (zaD _ _ _ _).mono ?_;rintro e wq ⟨rfl,rfl⟩;rw [HK.out]))
  generalize hw1:w.alloc (.cells (rawC ⟨F,K,A,N,c,vb⟩) 179)=w1 at *
  clear hw1 c0 c1 c2
  refine wp_region_held_drew (S:=fun x=>WhS w x lo hi ⟨F,K,A,N,c,vb⟩) (by kernel_rfl) ST.out.drew (fun hHeld=>?_)
  refine rgT 0 ?_
  refine rgV 1 (.int .u8 (IntKind.u8.wrap (F:Int))) ?_ ?_
  ·(intro w' hSw;(try dsimp only at hSw);go_simp <;> rfl)
  refine rgT 2 ?_
  refine rgK 3 (fun w' hSw=>hSw.c1) ?_
  refine rgV 4 (.int .u8 (IntKind.u8.wrap (K:Int))) ?_ ?_
  ·(intro w' hSw;(try dsimp only at hSw);go_simp <;> rfl)
  refine rgT 6 ?_
  refine rgK 7 (fun w' hSw=>hSw.c2) ?_
  refine rgT 8 ?_
  refine rgT 9 ?_
  refine zcX (w1:=w1.drew.alloc (.cells #[.int .u8 (IntKind.u8.wrap (F:Int)),.int .u8 (IntKind.u8.wrap (K:Int))] 5)) (i:=10) (j:=5) (v:=.slice (some ⟨w1.heap.size,0,none⟩) 2 2) rfl rfl (by kernel_rfl) (by rfl) (by rfl) (HCS.out _) (fun w=>by kernel_rfl) ?_ (hHeld.new _) (fun hHeld=>?_) ?_
  ·(go_simp <;> with_reducible rfl)
  ·refine rgN ?_
   refine zag (i:=10) rfl (by kernel_rfl) (by rfl) (HCS.out _) (fun w=>by kernel_rfl) ?_
   rintro e w2 ⟨rfl,rfl⟩
   refine ⟨_,rfl,hHeld,fun hHeld=>?_⟩
   refine rgN ?_
   have SZ1:=SZO.out
   refine zag (i:=11) rfl (by kernel_rfl) (by rfl) (zdj (w1.drew.alloc (.cells #[.int .u8 (IntKind.u8.wrap (F:Int)),.int .u8 (IntKind.u8.wrap (K:Int))] 5)) w1.drew.heap.size (w1.drew.heap.size+1) (some ⟨w1.drew.heap.size,0,none⟩) 2 2 [UInt8.ofNat F,UInt8.ofNat K] (zjC w1.drew F K) (by simp) (by decide) N SZ SZ1.1.1 SZ1.1.2 SZ1.2) (fun w=>by kernel_rfl) ?_
   rintro e w3 ⟨v3,rfl,ho3,hb3⟩
   have SD3:=hide (hHeld.on hb3)
   have HO3:=hide (zb8 ho3 (Nat.le_trans ST.out.bl.size (show w1.heap.size≤(w1.drew.alloc (.cells #[.int .u8 (IntKind.u8.wrap (F:Int)),.int .u8 (IntKind.u8.wrap (K:Int))] 5)).heap.size by simp)))
   clear ho3 hb3
   refine ⟨_,rfl,SD3.out,fun hHeld=>?_⟩
   refine rgN ?_
   refine rgT 12 ?_
   refine rgT 13 ?_
   refine rgT 14 ?_
   refine rgT 15 ?_
   refine rgT 16 ?_
   refine wpAnyH_done (by kernel_rfl) ?_ _
   obtain ⟨A3,c3,rfl,_,_⟩:=zac HO3.out
   have c2:=SD3.out.c2
   have HAX:=hide SD3.out.v
   have hz3:=SD3.out.bl.size
   have HBL:=hide SD3.out.bl
   go_wp2_with (at_builtin;go_must (refine zad _ rfl (.tmp 50) (.tmp 52) 22 rfl w.heap.size 5 i0 Tryz.underlying22 hi0 hz0 hz1 hz2 (.slice A3 (2+SZ) c3) (2+SZ) ([UInt8.ofNat F,UInt8.ofNat K]++be SZ N) rfl HO3.out lo hi A N c vb rfl HAX.out (by omega) hz3 ?_);intro v4 w4 hown4 hg4 hat4;have HO4:=hide hown4;have HG4:=hide hg4;clear hown4 hg4 hat4)
   go_ret2
   refine ⟨v4,by rw [HE.out];rfl,?_,HBL.out.grown HG4.out hz3 (fun g hg=>(HO3.out.lt g hg).1)⟩
   have hout:ze1 ⟨F,K,vb⟩=([UInt8.ofNat F,UInt8.ofNat K]++be SZ N)++vb:=by unfold ze1;rw [if_pos HE.out];exact HCC.out
   rw [hout,List.length_append,List.length_append,zaW,HVL.out]
   exact HO4.out
  ·rintro e w2 ⟨rfl,rfl⟩
   refine ⟨_,rfl,hHeld,fun hHeld=>?_⟩
   refine rgN ?_
   refine zaZ (w':=w1.drew.alloc (.cells #[.int .u8 (IntKind.u8.wrap (F:Int)),.int .u8 (IntKind.u8.wrap (K:Int))] 5)) (i:=5) (v:=.slice (some ⟨w1.heap.size,0,none⟩) 2 2) rfl (by kernel_rfl) (by rfl) ?_ (hHeld.new _) (fun hHeld=>?_)
   ·(go_simp <;> with_reducible rfl)
   refine rgN ?_
   have SZ1:=SZO.out
   refine zag (i:=11) rfl (by kernel_rfl) (by rfl) (zdj (w1.drew.alloc (.cells #[.int .u8 (IntKind.u8.wrap (F:Int)),.int .u8 (IntKind.u8.wrap (K:Int))] 5)) w1.drew.heap.size (w1.drew.heap.size+1) (some ⟨w1.drew.heap.size,0,none⟩) 2 2 [UInt8.ofNat F,UInt8.ofNat K] (zjC w1.drew F K) (by simp) (by decide) N SZ SZ1.1.1 SZ1.1.2 SZ1.2) (fun w=>by kernel_rfl) ?_
   rintro e w3 ⟨v3,rfl,ho3,hb3⟩
   have SD3:=hide (hHeld.on hb3)
   have HO3:=hide (zb8 ho3 (Nat.le_trans ST.out.bl.size (show w1.heap.size≤(w1.drew.alloc (.cells #[.int .u8 (IntKind.u8.wrap (F:Int)),.int .u8 (IntKind.u8.wrap (K:Int))] 5)).heap.size by simp)))
   clear ho3 hb3
   refine ⟨_,rfl,SD3.out,fun hHeld=>?_⟩
   refine rgN ?_
   refine rgT 12 ?_
   refine rgT 13 ?_
   refine rgT 14 ?_
   refine rgT 15 ?_
   refine rgT 16 ?_
   refine wpAnyH_done (by kernel_rfl) ?_ _
   obtain ⟨A3,c3,rfl,_,_⟩:=zac HO3.out
   have c2:=SD3.out.c2
   have HAX:=hide SD3.out.v
   have hz3:=SD3.out.bl.size
   have HBL:=hide SD3.out.bl
   go_wp2_with (at_builtin;go_must (refine zad _ rfl (.tmp 50) (.tmp 52) 22 rfl w.heap.size 5 i0 Tryz.underlying22 hi0 hz0 hz1 hz2 (.slice A3 (2+SZ) c3) (2+SZ) ([UInt8.ofNat F,UInt8.ofNat K]++be SZ N) rfl HO3.out lo hi A N c vb rfl HAX.out (by omega) hz3 ?_);intro v4 w4 hown4 hg4 hat4;have HO4:=hide hown4;have HG4:=hide hg4;clear hown4 hg4 hat4)
   go_ret2
   refine ⟨v4,by rw [HE.out];rfl,?_,HBL.out.grown HG4.out hz3 (fun g hg=>(HO3.out.lt g hg).1)⟩
   have hout:ze1 ⟨F,K,vb⟩=([UInt8.ofNat F,UInt8.ofNat K]++be SZ N)++vb:=by unfold ze1;rw [if_pos HE.out];exact HCC.out
   rw [hout,List.length_append,List.length_append,zaW,HVL.out]
   exact HO4.out
set_option maxHeartbeats 2000000 in
theorem zqR (w:World) (lo hi:Nat) (A:Option Addr) (N c:Nat) (f k:Int) (vb:List UInt8) (h:At w lo hi A N vb) (hh:hi≤w.heap.size) (he:za0 ⟨f,k,vb⟩≠0) :
  Calls Tryz.prog 114 #[.agg (rawC ⟨f,k,A,N,c,vb⟩)] w (zcc w ⟨f,k,vb⟩):=by
 have HVL:=hide h.len
 have ST:Hid (WhS w (w.alloc (.cells (rawC ⟨f,k,A,N,c,vb⟩) 179)) lo hi ⟨f,k,A,N,c,vb⟩):=hide ⟨Blk.new w _ _,h.alloc hh _,(Below.refl _ _).alloc (Nat.le_refl _) _,hh⟩
 have c0:=ST.out.c0
 have c1:=ST.out.c1
 have c2:=ST.out.c2
 by_cases h1:0≤f∧f≤255
 ·obtain ⟨F,rfl⟩:∃ F:Nat,f=F:=⟨f.toNat,by omega⟩
  have HF:Hid (decide ((0:Int)≤(F:Int)∧(F:Int)≤255)=true):=hide (decide_eq_true h1)
  have ha:=zt0 F (by omega)
  by_cases h2:zcA F=true
  ·rw [if_pos h2] at ha
   have HE:Hid (za0 ⟨F,k,vb⟩=1):=hide (by
    unfold za0
    rw [if_pos (.inr (.inr (.inl (by show zcA (F:Int).toNat=true;rw [Int.toNat_natCast];exact h2))))])
   clear h he h1 h2
   go_enter Tryz.func114,Tryz.ntmps114
   go_wp2_with (go_at_call 95;refine (zaD _ _ _ _).mono ?_;rintro e wq ⟨rfl,rfl⟩;rw [HF.out])
   go_ret2
   exact zcc.no HE.out (by decide) ST.out.bl
  ·rw [if_neg h2] at ha
   have hl:zcA F=false:=by simpa using h2
   by_cases h3:0≤k∧k≤255
   ·obtain ⟨K,rfl⟩:∃ K:Nat,k=K:=⟨k.toNat,by omega⟩
    have HK:Hid (decide ((0:Int)≤(K:Int)∧(K:Int)≤255)=true):=hide (decide_eq_true h3)
    have hn:¬ (((F:Nat):Int)<0∨255<(F:Int)∨zcA (F:Int).toNat=true∨(K:Int)<0∨255<(K:Int)):=by
     rw [Int.toNat_natCast,hl]
     intro e
     rcases e with e | e | e | e | e <;> first | omega | cases e
    have h4:4096<vb.length:=by
     by_cases h4:4096<vb.length
     ·exact h4
     ·exact absurd (show za0 ⟨F,K,vb⟩=0 by unfold za0;rw [if_neg hn,if_neg h4]) he
    have HE:Hid (za0 ⟨F,K,vb⟩=2):=hide (by unfold za0;rw [if_neg hn,if_pos h4])
    rw [HVL.out] at h4
    have h5:(4096:Int)<(N:Int):=by omega
    clear h he h1 h2 h3 h4 hn hl
    go_enter Tryz.func114,Tryz.ntmps114
    go_wp2_with (first
    | (go_at_call 95;refine (zaD _ _ _ _).mono ?_;rintro e wq ⟨rfl,rfl⟩;rw [HF.out])
    | (go_at_call 95;refine (zaD _ _ _ _).mono ?_;rintro e wq ⟨rfl,rfl⟩;rw [HK.out]))
    go_ret2
    exact zcc.no HE.out (by decide) ST.out.bl
   ·have HK:Hid (decide ((0:Int)≤k∧k≤255)=false):=hide (decide_eq_false h3)
    have HE:Hid (za0 ⟨F,k,vb⟩=1):=hide (by
     unfold za0
     rw [if_pos (by by_cases h5:k<0;exact .inr (.inr (.inr (.inl h5)));exact .inr (.inr (.inr (.inr (by show 255<k;omega)))))])
    clear h he h1 h2 h3 hl
    go_enter Tryz.func114,Tryz.ntmps114
    go_wp2_with (first
    | (go_at_call 95;refine (zaD _ _ _ _).mono ?_;rintro e wq ⟨rfl,rfl⟩;rw [HF.out])
    | (go_at_call 95;refine (zaD _ _ _ _).mono ?_;rintro e wq ⟨rfl,rfl⟩;rw [HK.out]))
    go_ret2
    exact zcc.no HE.out (by decide) ST.out.bl
 ·have HF:Hid (decide ((0:Int)≤f∧f≤255)=false):=hide (decide_eq_false h1)
  have HE:Hid (za0 ⟨f,k,vb⟩=1):=hide (by
   unfold za0
   rw [if_pos (by by_cases h5:f<0;exact .inl h5;exact .inr (.inl (by show 255<f;omega)))])
  clear h he h1
  go_enter Tryz.func114,Tryz.ntmps114
  go_wp2_with (go_at_call 95;refine (zaD _ _ _ _).mono ?_;rintro e wq ⟨rfl,rfl⟩;rw [HF.out])
  go_ret2
  exact zcc.no HE.out (by decide) ST.out.bl
theorem zoe (w:World) (lo hi:Nat) (x:RawP) (h:At w lo hi x.A x.n x.v) (hh:hi≤w.heap.size) :
  Calls Tryz.prog 114 #[.agg (rawC x)] w (zcc w x.raw):=by
 obtain ⟨f,k,A,N,c,vb⟩:=x
 by_cases he:za0 ⟨f,k,vb⟩=0
 ·by_cases hc:f<0∨255<f∨zcA f.toNat=true∨k<0∨255<k
  ·unfold za0 at he
   rw [if_pos hc] at he
   exact absurd he (by decide)
  ·obtain ⟨F,rfl⟩:∃ F:Nat,f=F:=⟨f.toNat,by omega⟩
   obtain ⟨K,rfl⟩:∃ K:Nat,k=K:=⟨k.toNat,by omega⟩
   rw [Int.toNat_natCast] at hc
   have hl:zcA F=false:=by
    cases h9:zcA F
    ·rfl
    ·exact absurd (.inr (.inr (.inl h9))) hc
   exact zod w lo hi A N c F K vb h hh (by omega) hl (by omega) (by have:=zf4 he;have h2:=h.len;dsimp only at this h2;omega)
 ·exact zqR w lo hi A N c f k vb h hh he
def zik (l:List Rw):List UInt8:=if zbr l=0 then zba l else []
def zkZ (w:World) (l:List Rw) (e:Ending) (w':World):Prop :=
 ∃ v,e = .returned (.tuple #[v,.int .i64 (zbr l)])∧w'.ownsRow w.heap.size 5 1 v (zik l).length (bvs (zik l))∧Below w.heap.size w w'
theorem zkf (w:World) (lo hi:Nat) (A:Option Addr) (n c:Nat) (l:List RawP) (h:zeQ w lo hi A n l) (hh:hi≤w.heap.size) (hn:n≤1000000) :
  Calls Tryz.prog 113 #[.slice A n c,.func (.func 114) #[] #[]] w (zkZ w (l.map RawP.raw)):=by
 obtain ⟨i0,hi0,hz0,hz1,hz2⟩:=info_parts za4
 have H:=hide h
 have HXL:=hide h.len
 have HM:Hid (∀ (k:Nat) (x:RawP),l[k]?=some x→(l.map RawP.raw)[k]?=some x.raw):=hide (fun k x hx=>by rw [List.getElem?_map,hx];rfl)
 have HML:Hid ((l.map RawP.raw).length=n):=hide (by rw [List.length_map];exact h.len)
 obtain ⟨L,hL⟩:∃ L,l.map RawP.raw=L:=⟨_,rfl⟩
 rw [hL] at HM HML ⊢
 clear h hL
 go_enter Tryz.func113,Tryz.ntmps113
 go_wp2_with fail
 go_loopw [6,13] (fun v i wr=>∃ (k c3:Nat) (B:Option Addr),k≤n∧v = .slice B (zba (L.take k)).length c3∧i = .int .i64 k∧wr.ownsRow w.heap.size 5 1 (.slice B (zba (L.take k)).length c3) (zba (L.take k)).length (bvs (zba (L.take k)))∧zbr (L.take k)=0∧Below w.heap.size w wr) (fun _ i _=>n-(intOf i).toNat)
 case atStart=>exact ⟨0,0,none,Nat.zero_le _,rfl,rfl,World.ownsRow_nil _ _ _ _,rfl,Below.refl _ _⟩
 case round =>
  obtain ⟨k,c3,B,hk,rfl,rfl,hown,hrt,hbel⟩:=hrel
  have HO:=hide hown
  have WB:=hide hbel
  have HRT:=hide hrt
  clear hown hbel hrt
  by_cases hlt:k<n
  ·have Yr:=hide (H.out.below (w':=wr) (WB.out.mono hh))
   obtain ⟨b,o,x,rfl,hb1,hb2,hx,hat,hv,hnc⟩:=Yr.out.at_ hlt
   have HX:=hide (HM.out k x hx)
   have HAT:=hide hat
   have HV:=hide hv
   have HLEN:Hid ((zba (L.take k)).length≤k*4100):=hide (by have:=zfb HRT.out;rwa [List.length_take,Nat.min_eq_left (by rw [HML.out];exact hk)] at this)
   have NEW:=hide (Blk.new wr 179 #[.int .i64 0,.int .i64 0,.slice none 0 0])
   clear hx hat hv hnc
   generalize hR:zba (L.take k)=R at *
   have HRR:=hide hR
   clear hR
   go_wp2_with (first
    | ((with_reducible refine zff rfl (.tmp 15) rfl (b:=b) (i:=o+k*3) rfl HAT.out ?_))
    | (refine zgw rfl (.tmp 8) (.tmp 16) rfl wr.heap.size rfl x rfl NEW.out rfl ?_;intro w2 hb2 hg2;have B2:=hide hb2;have W2:Hid (Below wr.heap.size wr w2):=hide (((Below.refl _ _).alloc (Nat.le_refl _) _).grown hg2 (by simp) (by simp));clear hb2 hg2;refine Hid.out ?_))
   refine hide ?_
   have HO2:=hide (za1 HO.out W2.out)
   have WB2:=hide (zaa WB.out W2.out (Nat.le_refl _))
   have HV2:=hide (HV.out.below (W2.out.mono (Nat.le_trans hh WB.out.size)))
   clear NEW
   go_wp2_with (with_reducible refine zgW rfl (.tmp 8) rfl wr.heap.size rfl B2.out ?_)
   refine (zoe w2 lo hi x HV2.out (Nat.le_trans hh WB2.out.size)).mono ?_
   rintro e w3 ⟨v3,rfl,ho3,hb3⟩
   obtain ⟨A3,c4,rfl,_,_⟩:=zac ho3
   have AT3:=hide (At.own ho3)
   have HO3:=hide (za1 HO2.out hb3)
   have WB3:=hide (zaa WB2.out hb3 (Nat.le_refl _))
   clear ho3 hb3 HO2 WB2 HO WB HV HV2
   by_cases he:za0 x.raw=0
   ·have hoB:Hid (ze1 x.raw=zcH x.raw):=hide (by unfold ze1;rw [if_pos he])
    have HS:=hide (zph x.raw)
    have HNX:=hide (zl0 HRT.out HX.out he)
    have HCN:=hide (zkP HX.out)
    rw [HRR.out] at HCN
    rw [hoB.out] at HS AT3
    rw [hoB.out,he]
    have hsz:=WB3.out.size
    generalize hcx:zcH x.raw=cx at *
    have HL:=hide HLEN.out
    clear he hcx hoB
    go_wp2_with (at_builtin;go_must (refine zad _ rfl (.tmp 26) (.tmp 27) 22 rfl w.heap.size 5 i0 Tryz.underlying22 hi0 hz0 hz1 hz2 (.slice B R.length c3) R.length R rfl HO3.out _ _ A3 cx.length c4 cx rfl AT3.out (by have h1:=HS.out;have h2:=HL.out;have h3:k*4100≤1000000*4100:=Nat.mul_le_mul_right _ (by omega);omega) hsz ?_);intro v1 w4 hown1 hg4 hat4;rw [← List.length_append,HCN.out] at hown1;have HO1:=hide hown1;have HG4:=hide hg4;clear hown1 hg4 hat4)
    obtain ⟨A4,c5,rfl,_,_⟩:=zac HO1.out
    go_roundw
    case rel=>exact ⟨k+1,c5,A4,by omega,rfl,by go_num,HO1.out,HNX.out,WB3.out.grown HG4.out hsz (fun g hg=>(HO3.out.lt g hg).1)⟩
    case measure=>simp [intOf];omega
   ·have HF:=hide (zkL HRT.out HX.out he)
    have he2:(za0 x.raw != 0)=true:=by simpa using he
    clear he
    go_wp2_with fail
    go_ret2
    refine ⟨.slice none 0 0,by rw [HF.out];rfl,?_,WB3.out⟩
    have ho:zik L=[]:=by unfold zik;rw [HF.out,if_neg (by simpa using he2)]
    rw [ho]
    exact World.ownsRow_nil _ _ _ _
  ·have hkn:k=n:=by omega
   subst hkn
   have HT:Hid (L.take k=L):=hide (List.take_of_length_le (by rw [HML.out];exact Nat.le_refl _))
   rw [HT.out] at HO HRT
   have ho:zik L=zba L:=by unfold zik;rw [if_pos HRT.out]
   have HOO:=hide ho
   clear ho
   go_wp2
   go_ret2
   refine ⟨.slice B (zba L).length c3,?_,?_,WB.out⟩
   ·rw [HRT.out,HT.out];rfl
   ·rw [HOO.out];exact HO.out
def zsn (w:World) (l:List Rw) (e:Ending) (w':World):Prop :=
 ∃ v,e = .returned (.tuple #[v,.int .i64 (zeA l)])∧w'.ownsRow w.heap.size 5 1 v (ze6 l).length (bvs (ze6 l))∧Below w.heap.size w w'
theorem zqJ (w:World) (lo hi:Nat) (A:Option Addr) (n c:Nat) (l:List RawP) (h:zeQ w lo hi A n l) (hh:hi≤w.heap.size) :
  Calls Tryz.prog 73 #[.slice A n c] w (zsn w (l.map RawP.raw)):=by
 have hl:(l.map RawP.raw).length=n:=by rw [List.length_map];exact h.len
 by_cases h64:64<n
 ·have h64I:(64:Int)<(n:Int):=by omega
  have HE:Hid (zeA (l.map RawP.raw)=2):=hide (by unfold zeA;rw [if_pos (by omega)])
  clear h h64 hl
  go_enter Tryz.func73,Tryz.ntmps73
  go_wp2
  go_ret2
  refine ⟨.slice none 0 0,by rw [HE.out];rfl,?_,Below.refl _ _⟩
  unfold ze6
  rw [HE.out]
  exact World.ownsRow_nil _ _ _ _
 ·have h64I:¬ (64:Int)<(n:Int):=by omega
  have HE:Hid (zeA (l.map RawP.raw)=zbr (l.map RawP.raw)):=hide (by unfold zeA;rw [if_neg (by omega)])
  have HC:=hide (zkf w lo hi A n c l h hh (by omega))
  clear h h64 hl
  go_enter Tryz.func73,Tryz.ntmps73
  go_wp2_with fail
  refine HC.out.mono ?_
  rintro e w1 ⟨v,rfl,ho,hb⟩
  go_wp2
  go_ret2
  refine ⟨v,by rw [HE.out];rfl,?_,hb⟩
  unfold ze6
  rw [HE.out]
  exact ho
end
section
open Go.RowKit
def zdk (x:Nat) (last:Bool):List UInt8:=be 3 (x*16+(if last then 1 else 0))
end
section
open Go.RowKit
structure Tun where
 leaf:Bool
 k:Int
 l:Int
 s:Int
 bs:List UInt8
 id:List UInt8
def zcB (k s:Int) (id:List UInt8):Bool :=
 if k=0 then decide (s=0∧id.length=0)
 else if k=1 then decide (s=4∧id.length=6)
 else if k=2∨k=7 then decide (0<s∧id.length≤64)
 else if k=3∨k=4∨k=5 then decide (s=id.length)&&zbJ (ofS id) (ofB id)
 else if k=6 then decide (0<s∧id.length=0)
 else false
def zdR (t:Tun):Bool:=decide (0≤t.l∧t.l≤1048575)&&(zau t.s t.bs&&zcB t.k t.s t.id)
def zdn (k s:Int):List UInt8:=[if k=7 then 7 else 6,0,if s=16 then 2 else 1,UInt8.ofNat s.toNat]
def za6 (k s:Int) (bs id:List UInt8):List UInt8 :=
 if k=1 then id.take 4++([0,0]++(id.drop 4++zap s bs))
 else if k=2∨k=7 then zdn k s++(zap s bs++(be 2 id.length++id))
 else if k=3∨k=4∨k=5 then zap s bs++id
 else zap s bs
def znR (t:Tun):List UInt8:=[if t.leaf then 1 else 0,UInt8.ofNat t.k.toNat]
def zh1 (t:Tun):List UInt8:=znR t++(zdk t.l.toNat false++za6 t.k t.s t.bs t.id)
theorem ziq {k s:Int} {id:List UInt8} (h:zcB k s id=true):k=0∨k=1∨k=2∨k=3∨k=4∨k=5∨k=6∨k=7:=by
 unfold zcB at h
 by_cases h0:k=0
 ·omega
 ·by_cases h1:k=1
  ·omega
  ·by_cases h2:k=2∨k=7
   ·omega
   ·by_cases h3:k=3∨k=4∨k=5
    ·omega
    ·by_cases h6:k=6
     ·omega
     ·rw [if_neg h0,if_neg h1,if_neg h2,if_neg h3,if_neg h6] at h
      cases h
theorem zcx {s:Int} {bs:List UInt8} (h:zau s bs=true):s=0∨s=4∨s=16:=by
 unfold zau at h
 simp only [Bool.and_eq_true] at h
 exact of_decide_eq_true h.1
theorem ztl {s:Nat} {bs:List UInt8} (hl:bs.length=16) (hs:s≤16) (hz:(bs.drop s).all (· == 0)=true):pad (bs.take s)=bs:=by
 unfold pad
 have h1:(bs.take s).length=s:=by rw [List.length_take];omega
 rw [h1]
 have h2:bs.drop s=List.replicate (16-s) 0:=by
  rw [List.eq_replicate_iff]
  refine ⟨by rw [List.length_drop,hl],fun b hb=>?_⟩
  rw [List.all_eq_true] at hz
  exact eq_of_beq (hz b hb)
 rw [← h2,List.take_append_drop]
theorem zdL {s:Int} {bs:List UInt8} (hl:bs.length=16) (h:zau s bs=true):(zap s bs).length=s.toNat:=by
 have:=zcx h
 unfold zap
 rw [if_pos h,List.length_take]
 omega
theorem zkl {s:Int} {bs:List UInt8} (hl:bs.length=16) (h:zau s bs=true):ofS (zap s bs)=s∧ofB (zap s bs)=bs:=by
 have h3:=zcx h
 have hn:=zdL hl h
 have hs:zcJ (zap s bs).length=true:=by
  rw [hn];unfold zcJ;exact decide_eq_true (by omega)
 unfold ofS ofB
 rw [if_pos hs,if_pos hs]
 refine ⟨by rw [hn];omega,?_⟩
 have hz:(bs.drop s.toNat).all (· == 0)=true:=by
  unfold zau at h
  simp only [Bool.and_eq_true] at h
  exact h.2
 unfold zap
 rw [if_pos h]
 exact ztl hl (by omega) hz
theorem zf0 (xs:List UInt8):(ofB xs).length=16:=by
 unfold ofB
 split
 ·rename_i h
  have:xs.length≤16:=by
   have h':((xs.length:Nat):Int)=0∨((xs.length:Nat):Int)=4∨((xs.length:Nat):Int)=16:=of_decide_eq_true h
   omega
  unfold pad
  rw [List.length_append,List.length_replicate]
  omega
 ·rfl
end
section
open Go.Sort
def B8:Type:={ l:List UInt8 // l.length=8 }
instance:Inhabited B8:=⟨⟨List.replicate 8 0,rfl⟩⟩
instance:DecidableEq B8:=fun a b=>decidable_of_iff (a.1=b.1) ⟨fun h=>Subtype.ext h,fun h=>by rw [h]⟩
def cf8 (x y:B8):Int:=Lib.compareBytes x.1 y.1
def lt8 (x y:B8):Prop:=cf8 x y<0
instance (x y:B8):Decidable (lt8 x y):=inferInstanceAs (Decidable (_<_))
def insL (x:B8):List B8→List B8
 | []=>[x]
 | y::l=>if lt8 x y then x::y::l else if x=y then y::l else y::insL x l
theorem zrG (x z:B8):∀ l,z∈insL x l↔z=x∨z∈l
 | []=>by simp [insL]
 | y::l=>by
  unfold insL
  split
  ·simp
  ·split
   ·rename_i e;subst e;simp
   ·rw [List.mem_cons,zrG x z l,List.mem_cons]
    constructor
    ·rintro (h | h | h)
     ·exact .inr (.inl h)
     ·exact .inl h
     ·exact .inr (.inr h)
    ·rintro (h | h | h)
     ·exact .inr (.inl h)
     ·exact .inl h
     ·exact .inr (.inr h)
open Go.RowKit
open Go.Sort (HoldsK putRowK flatK)
def zbv:List B8→List UInt8
 | []=>[]
 | x::l=>x.1++zbv l
theorem zht:∀ l,(zbv l).length=l.length*8
 | []=>rfl
 | x::l=>by unfold zbv;rw [List.length_append,x.2,zht l,List.length_cons];omega
theorem zgk:∀ a b,zbv (a++b)=zbv a++zbv b
 | [],b=>rfl
 | x::a,b=>by show x.1++zbv (a++b)=(x.1++zbv a)++zbv b;rw [zgk a b,List.append_assoc]
theorem znS:∀ (l:List B8) (k:Nat),(zbv l).take (k*8)=zbv (l.take k)
 | [],k=>by simp [zbv]
 | x::l,0=>by simp [zbv]
 | x::l,k+1=>by
  have hx:=x.2
  show (x.1++zbv l).take ((k+1)*8)=x.1++zbv (l.take k)
  rw [List.take_append,List.take_of_length_le (by omega),hx,show (k+1)*8-8=k*8 by omega,znS l k]
theorem zis:∀ (l:List B8) (k:Nat),(zbv l).drop (k*8)=zbv (l.drop k)
 | [],k=>by simp [zbv]
 | x::l,0=>by simp
 | x::l,k+1=>by
  have hx:=x.2
  show (x.1++zbv l).drop ((k+1)*8)=zbv (l.drop k)
  rw [List.drop_append,List.drop_of_length_le (by omega),hx,show (k+1)*8-8=k*8 by omega,zis l k,List.nil_append]
theorem zrS (l:List B8) (k:Nat) (h:k<l.length):((zbv l).drop (k*8)).take 8=(l[k]).1:=by
 rw [zis,List.drop_eq_getElem_cons h]
 show (l[k].1++zbv (l.drop (k+1))).take 8=_
 rw [List.take_append_of_le_length (by rw [l[k].2];exact Nat.le_refl _),List.take_of_length_le (by rw [l[k].2];exact Nat.le_refl _)]
def AtE (w:World) (lo hi:Nat) (A:Option Addr) (n:Nat) (xs:List B8):Prop:=xs.length=n∧At w lo hi A (n*8) (zbv xs)
section
variable {w w':World} {lo hi lo' hi' n:Nat} {A:Option Addr} {xs:List B8}
theorem AtE.len (h:AtE w lo hi A n xs):xs.length=n:=h.1
theorem AtE.nil (w:World) (lo hi:Nat) (A:Option Addr):AtE w lo hi A 0 []:=⟨rfl,At.nil _ _ _ _⟩
theorem AtE.keep (h:AtE w lo hi A n xs) (hk:∀ p:Addr,lo≤p.block→p.block<hi→w'.cell? p=w.cell? p):AtE w' lo hi A n xs:=⟨h.1,h.2.keep hk⟩
theorem AtE.below (h:AtE w lo hi A n xs) (hb:Below hi w w'):AtE w' lo hi A n xs:=⟨h.1,h.2.below hb⟩
theorem AtE.at_ {k:Nat} (h:AtE w lo hi A n xs) (hk:k<n):∃ b o x,A=some ⟨b,o,none⟩∧lo≤b∧b<hi∧xs[k]?=some x∧At w lo hi (some ⟨b,o+k*8,none⟩) 8 x.1:=by
 obtain ⟨hl,hA⟩:=h
 obtain ⟨b,o,rfl,h1,h2,hc⟩:=hA.2 (by omega)
 have hk':k<xs.length:=by omega
 refine ⟨b,o,xs[k],rfl,h1,h2,List.getElem?_eq_getElem hk',(xs[k]).2,fun _=>⟨b,_,rfl,h1,h2,fun j u hu=>?_⟩⟩
 rw [Nat.add_assoc]
 refine hc (k*8+j) u ?_
 have hj:j<8:=by have:=(List.getElem?_eq_some_iff.1 hu).1;rw [(xs[k]).2] at this;exact this
 have e:=congrArg (fun l:List UInt8=>l[j]?) (zrS xs k hk')
 simp only [List.getElem?_take,hj,if_true,List.getElem?_drop] at e
 rw [e]
 exact hu
end
theorem At.elem {w:World} {lo hi b o:Nat} {bs:List UInt8} (h:At w lo hi (some ⟨b,o,none⟩) 8 bs):∀ j v,(bvs bs)[j]?=some v→w.cell? ((⟨b,o,none⟩:Addr).add j)=some v:=by
 obtain ⟨ad,e,hc⟩:=h.cells (by omega)
 injection e with e
 subst e
 exact hc
end
section
open Go.RowKit
structure Sg where
 set:Bool
 xs:List Int
structure Ats where
 o:Int
 path:List Sg
 med:Int
 pref:Int
 os:Int
 ob:List UInt8
 cl:List (Int × List UInt8)
 ex:List B8
 tn:List Tun
def zkp:Ats:=⟨0,[],-1,-1,0,zas,[],[],[]⟩
def four (s:Int) (b:List UInt8):Bool:=decide (s=4)&&zau s b
def zpp (n:Int):Bool:=decide (-1≤n∧n≤4294967295)
def sgOk (s:Sg):Bool:=decide (1≤s.xs.length∧s.xs.length≤255)&&s.xs.all (fun x=>decide (0≤x∧x≤4294967295))
def zpa (p:List Sg):Bool:=decide (p.length≤16)&&p.all sgOk
def zsv (s:Int) (b:List UInt8):Bool:=decide (s=0∧b=zas)||four s b
def clOk (l:List (Int × List UInt8)):Bool:=decide (l.length≤32)&&l.all (fun x=>four x.1 x.2)
def tnOk (l:List Tun):Bool:=decide (l.length≤1)&&l.all zdR
def zbK (a:Ats):Bool:=decide (0≤a.o∧a.o≤2)&&(zpp a.med&&(zpp a.pref&&(zpa a.path&&(zsv a.os a.ob&&(clOk a.cl&&(decide (a.ex.length≤64)&&tnOk a.tn))))))
def asB:List Int→List UInt8
 | []=>[]
 | x::r=>be 4 x.toNat++asB r
def sgB (s:Sg):List UInt8:=[if s.set then 1 else 2,UInt8.ofNat s.xs.length]++asB s.xs
def znv:List Sg→List UInt8
 | []=>[]
 | s::r=>sgB s++znv r
def clB:List (Int × List UInt8)→List UInt8
 | []=>[]
 | x::r=>zap x.1 x.2++clB r
theorem zmg:∀ l:List Int,(asB l).length=4*l.length
 | []=>rfl
 | x::r=>by show (be 4 x.toNat++asB r).length=_;rw [List.length_append,zaW,zmg r,List.length_cons];omega
theorem zs2 (s:Sg):(sgB s).length=2+4*s.xs.length:=by unfold sgB;rw [List.length_append,zmg];rfl
theorem zji {s:Int} {b:List UInt8} (hl:b.length=16) (h:four s b=true):s=4∧(zap s b).length=4∧ofS (zap s b)=s∧ofB (zap s b)=b:=by
 unfold four at h
 simp only [Bool.and_eq_true,decide_eq_true_eq] at h
 obtain ⟨rfl,h⟩:=h
 exact ⟨rfl,by rw [zdL hl h];rfl,(zkl hl h).1,(zkl hl h).2⟩
theorem zqi:∀ {l:List (Int × List UInt8)},(∀ x∈l,x.2.length=16)→l.all (fun x=>four x.1 x.2)=true→(clB l).length=4*l.length
 | [],_,_=>rfl
 | x::r,h,h'=>by
  rw [List.all_cons,Bool.and_eq_true] at h'
  have h1:=(zji (h x (by simp)) h'.1).2.1
  have h2:=zqi (fun y hy=>h y (by simp [hy])) h'.2
  show (zap x.1 x.2++clB r).length=_
  rw [List.length_append,h1,h2,List.length_cons]
  omega
inductive Item where
 | origin (o:Int)
 | path (p:List Sg)
 | med (m:Int)
 | pref (m:Int)
 | orig (s:Int) (b:List UInt8)
 | clus (l:List (Int × List UInt8))
 | exts (l:List B8)
 | tun (t:Tun)
def Item.kind:Item→Int
 | .origin _=>1
 | .path _=>2
 | .med _=>4
 | .pref _=>5
 | .orig _ _=>9
 | .clus _=>10
 | .exts _=>16
 | .tun _=>22
def Item.flags:Item→Int
 | .origin _=>64
 | .path _=>64
 | .med _=>128
 | .pref _=>64
 | .orig _ _=>128
 | .clus _=>128
 | .exts _=>192
 | .tun _=>192
def Item.value:Item→List UInt8
 | .origin o=>[UInt8.ofNat o.toNat]
 | .path p=>znv p
 | .med m=>be 4 m.toNat
 | .pref m=>be 4 m.toNat
 | .orig s b=>zap s b
 | .clus l=>clB l
 | .exts l=>zbv l
 | .tun t=>zh1 t
def Item.rw (i:Item):Rw:=⟨i.flags,i.kind,i.value⟩
def tunI:List Tun→List Item
 | []=>[]
 | t::_=>[.tun t]
def zjg (a:Ats):List Item :=
 [.origin a.o,.path a.path]++((if 0≤a.med then [.med a.med] else [])++((if 0≤a.pref then [.pref a.pref] else [])++((if 0<a.os then [.orig a.os a.ob] else [])++((if a.cl=[] then [] else [.clus a.cl])++((if a.ex=[] then [] else [.exts a.ex])++tunI a.tn)))))
def zdW (a:Ats):List Rw:=(zjg a).map Item.rw
structure zqN (a:Ats):Prop where
 o:0≤a.o∧a.o≤2
 med : -1≤a.med∧a.med≤4294967295
 pref : -1≤a.pref∧a.pref≤4294967295
 path:zpa a.path=true
 orig:(a.os=0∧a.ob=zas)∨four a.os a.ob=true
 cl:a.cl.length≤32∧a.cl.all (fun x=>four x.1 x.2)=true
 ex:a.ex.length≤64
 tn:a.tn.length≤1∧a.tn.all zdR=true
theorem zlq (a:Ats):zbK a=true↔zqN a:=by
 unfold zbK zpp zsv clOk tnOk
 simp only [Bool.and_eq_true,Bool.or_eq_true,decide_eq_true_eq]
 exact ⟨fun ⟨h1,h2,h3,h4,h5,h6,h7,h8⟩=>⟨h1,h2,h3,h4,h5,h6,h7,h8⟩,fun ⟨h1,h2,h3,h4,h5,h6,h7,h8⟩=>⟨h1,h2,h3,h4,h5,h6,h7,h8⟩⟩
theorem zrP (i:Item):za0 i.rw=0∨za0 i.rw=2:=by
 have hf:i.flags=64∨i.flags=128∨i.flags=192:=by cases i <;> simp [Item.flags]
 have hk:0≤i.kind∧i.kind≤255:=by cases i <;> simp [Item.kind]
 have hl:zcA i.flags.toNat=false:=by rcases hf with h | h | h <;> (rw [h];decide)
 have h:¬ ((Item.rw i).f<0∨255<(Item.rw i).f∨zcA (Item.rw i).f.toNat=true∨(Item.rw i).k<0∨255<(Item.rw i).k):=by
  show ¬ (i.flags<0∨255<i.flags∨zcA i.flags.toNat=true∨i.kind<0∨255<i.kind)
  rw [hl]
  intro e
  rcases e with e | e | e | e | e <;> first | omega | cases e
 unfold za0
 rw [if_neg h]
 split
 ·exact .inr rfl
 ·exact .inl rfl
end
end Go.Proofs.YthgainmcnjldaaaGreatDoor
