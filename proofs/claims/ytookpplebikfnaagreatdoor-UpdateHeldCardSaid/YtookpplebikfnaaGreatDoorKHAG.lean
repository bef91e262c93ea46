/-
  What within, whole, rows.Write of attributes, and Join of package attr do, in whatever memory. No condition beyond sizes that fit memory.
  Labels in bytes, as plain functions. No condition.
  Tunnels as plain data: which are right, their bytes, and what is read of bytes. No condition. Nothing here speaks of the program.
  Plain mathematics of sets of rows of eight bytes: rising, each once. Nothing here speaks of the program.
  Rows of elements of eight bytes: how they read in memory, a piece of one, an element of one; a row of the call's own; append. No condition. Nothing here speaks of the program.
-/
import Derived.Lib.SlicesCompact
import Derived.Sort.Statements
import Derived.Shelf.GgSortFunc.RowK
import Derived.Test.YtookpplebikfnaaGreatDoorKHAF
set_option linter.unusedVariables false
set_option linter.unusedSimpArgs false
namespace Go.Proofs.YtookpplebikfnaaGreatDoor
section
set_option maxRecDepth 20000
set_option maxHeartbeats 3000000
open Go.RowKit
theorem zaJ (w:World) (n lo hi:Int):Calls Tryz.prog 43 #[.int .i64 n,.int .i64 lo,.int .i64 hi] w fun e w'=>e = .returned (.bool (decide (lo≤n∧n≤hi)))∧w=w':=by
 by_cases h1:lo≤n
 ·by_cases h2:n≤hi
  ·rw [decide_eq_true (show lo≤n∧n≤hi from ⟨h1,h2⟩)]
   go_enter Tryz.func43,Tryz.ntmps43
   go_wp2
   go_ret
   exact ⟨rfl,rfl⟩
  ·rw [decide_eq_false (show ¬ (lo≤n∧n≤hi) from fun h=>h2 h.2)]
   go_enter Tryz.func43,Tryz.ntmps43
   go_wp2
   go_ret
   exact ⟨rfl,rfl⟩
 ·rw [decide_eq_false (show ¬ (lo≤n∧n≤hi) from fun h=>h1 h.1)]
  go_enter Tryz.func43,Tryz.ntmps43
  go_wp2
  go_ret
  exact ⟨rfl,rfl⟩
theorem zk8 (w:World) (F K:Nat):At (w.alloc (.cells #[.int .u8 (IntKind.u8.wrap (F:Int)),.int .u8 (IntKind.u8.wrap (K:Int))] 5)) w.heap.size (w.heap.size+1) (some ⟨w.heap.size,0,none⟩) 2 [UInt8.ofNat F,UInt8.ofNat K]:=by
 rw [wrap8,wrap8]
 refine ⟨rfl,fun _=>⟨_,_,rfl,Nat.le_refl _,by omega,fun j u hu=>?_⟩⟩
 have hB:=Blk.new w 5 #[.int .u8 ((UInt8.ofNat F).toNat:Int),.int .u8 ((UInt8.ofNat K).toNat:Int)]
 rw [show (0:Nat)+j=j by omega,hB.cell]
 match j,hu with
 | 0,hu=>simp at hu;subst hu;rfl
 | 1,hu=>simp at hu;subst hu;rfl
structure WhS (w x:World) (lo hi:Nat) (r:RawP):Prop where
 b:Blk x w.heap.size 89 (rawC r)
 v:At x lo hi r.A r.n r.v
 bl:Below w.heap.size w x
 hh:hi≤w.heap.size
section
variable {w x y:World} {lo hi:Nat} {r:RawP}
theorem WhS.on (h:WhS w x lo hi r) (hb:Below x.heap.size x y):WhS w y lo hi r:=⟨h.b.over hb,h.v.below (hb.mono (Nat.le_trans h.hh h.bl.size)),zaa h.bl hb (Nat.le_refl _),h.hh⟩
theorem WhS.new (h:WhS w x lo hi r) (o:Obj):WhS w (x.alloc o) lo hi r:=h.on ((Below.refl _ _).alloc (Nat.le_refl _) _)
theorem WhS.drew (h:WhS w x lo hi r):WhS w x.drew lo hi r:=⟨h.b.drew,h.v.drew,zal h.bl,h.hh⟩
theorem WhS.c0 (h:WhS w x lo hi r):x.cell? ⟨w.heap.size,0,none⟩=some (.int .i64 r.f):=h.b.cell 0
theorem WhS.c1 (h:WhS w x lo hi r):x.cell? ⟨w.heap.size,1,none⟩=some (.int .i64 r.k):=h.b.cell 1
theorem WhS.c2 (h:WhS w x lo hi r):x.cell? ⟨w.heap.size,2,none⟩=some (.slice r.A r.n r.c):=h.b.cell 2
end
def zdb (w:World) (r:Rw) (e:Ending) (w':World):Prop :=
 ∃ v,e = .returned (.tuple #[v,.int .i64 (za6 r)])∧w'.ownsRow w.heap.size 5 1 v (zf4 r).length (bvs (zf4 r))∧Below w.heap.size w w'
theorem zdb.no {w w':World} {r:Rw} {k:Int} (h:za6 r=k) (hk:k≠0) (hb:Below w.heap.size w w'):zdb w r (.returned (.tuple #[.slice none 0 0,.int .i64 k])) w':=by
 refine ⟨.slice none 0 0,by rw [h],?_,hb⟩
 unfold zf4
 rw [if_neg (by rw [h];exact hk)]
 exact World.ownsRow_nil _ _ _ _
theorem zqf (w:World) (lo hi:Nat) (A:Option Addr) (N c F0 K:Nat) (vb:List UInt8) (h:At w lo hi A N vb) (hh:hi≤w.heap.size) (hF0:F0<256) (hl:zb9 F0=false) (hK:K<256) (hn:N≤4096) :
  Calls Tryz.prog 40 #[.agg (rawC ⟨F0,K,A,N,c,vb⟩)] w (zdb w ⟨F0,K,vb⟩):=by
 obtain ⟨i0,hi0,hz0,hz1,hz2⟩:=info_parts zbz
 have HVL:=hide h.len
 have ST:Hid (WhS w (w.alloc (.cells (rawC ⟨F0,K,A,N,c,vb⟩) 89)) lo hi ⟨F0,K,A,N,c,vb⟩):=hide ⟨Blk.new w _ _,h.alloc hh _,(Below.refl _ _).alloc (Nat.le_refl _) _,hh⟩
 have c0:=ST.out.c0
 have c1:=ST.out.c1
 have c2:=ST.out.c2
 have ha:bits .and .i64 (F0:Int) 16=0:=by rw [zwY F0 hF0,hl];rfl
 have ho:=or16 F0 hF0 hl
 have HF:Hid (decide ((0:Int)≤(F0:Int)∧(F0:Int)≤255)=true):=hide (decide_eq_true ⟨by omega,by omega⟩)
 have HK:Hid (decide ((0:Int)≤(K:Int)∧(K:Int)≤255)=true):=hide (decide_eq_true ⟨by omega,by omega⟩)
 have HE:Hid (za6 ⟨F0,K,vb⟩=0):=hide (by
  unfold za6
  rw [if_neg (by show ¬ ((F0:Int)<0∨255<(F0:Int)∨zb9 (F0:Int).toNat=true∨(K:Int)<0∨255<(K:Int));rw [Int.toNat_natCast,hl];intro e;rcases e with e | e | e | e | e <;> first | omega | cases e),if_neg (by show ¬ 4096<vb.length;rw [h.len];omega)])
 have HC:=hide (zss ⟨F0,K,vb⟩)
 have SZO:Hid ((1≤szR N∧szR N≤4)∧N<256^szR N):=hide (zu4 hn)
 have HFS:=hide (zur (x:=⟨F0,K,vb⟩) (by show (0:Int)≤(F0:Int);omega) (by show (F0:Int)≤255;omega) (by show zb9 (F0:Int).toNat=false;rw [Int.toNat_natCast];exact hl))
 have hAt:=hide h
 have hgt:¬ (4096:Int)<(N:Int):=by omega
 clear h hl
 by_cases hb:255<N
 ·have hbI:(255:Int)<(N:Int):=by omega
  obtain ⟨F,hF⟩:∃ F,flR ⟨F0,K,vb⟩=F:=⟨_,rfl⟩
  have hFv:F=F0+16:=by
   rw [← hF]
   unfold flR
   show (if 255<vb.length then (F0:Int).toNat+16 else (F0:Int).toNat)=_
   rw [HVL.out,Int.toNat_natCast]
   first | rw [if_pos hb] | rw [if_neg hb]
  rw [hF] at HC HFS
  obtain ⟨SZ,hSZ⟩:∃ SZ,szR N=SZ:=⟨_,rfl⟩
  have hs2:(if zb9 F=true then 2 else 1:Nat)=SZ:=by
   rw [HFS.out.2,← hSZ]
   show szR vb.length=_
   rw [HVL.out]
  rw [hSZ] at SZO
  have hf9:F<256:=HFS.out.1
  have HCS:=hide (fun (x:World)=>zeI x F hf9)
  rw [hs2] at HCS
  have HCC:Hid (zbd ⟨F0,K,vb⟩=([UInt8.ofNat F,UInt8.ofNat K]++be SZ N)++vb):=hide (by
   rw [HC.out]
   show ([UInt8.ofNat F,UInt8.ofNat (K:Int).toNat]++be (szR vb.length) vb.length)++vb=_
   rw [Int.toNat_natCast,HVL.out,hSZ])
  clear hF HC hSZ hs2 HFS hf9
  rw [← hFv] at ho;clear hFv
  go_enter Tryz.func40,Tryz.ntmps40
  go_wp2_with (first
    | (go_at_call 43;refine (zaJ _ _ _ _).mono ?_;rintro e wq ⟨rfl,rfl⟩;rw [HF.out])
    | (go_at_call 43;refine (zaJ _ _ _ _).mono ?_;rintro e wq ⟨rfl,rfl⟩;rw [HK.out]))
  generalize hw1:w.alloc (.cells (rawC ⟨F0,K,A,N,c,vb⟩) 89)=w1 at *
  clear hw1 c0 c1 c2
  refine wp_region_held_drew (S:=fun x=>WhS w x lo hi ⟨F0,K,A,N,c,vb⟩) (by kernel_rfl) ST.out.drew (fun hHeld=>?_)
  refine rgT 0 ?_
  refine rgV 1 (.int .u8 (IntKind.u8.wrap (F:Int))) ?_ ?_
  ·(intro w' hSw;(try dsimp only at hSw);go_simp <;> rfl)
  refine rgT 2 ?_
  refine rgK 3 (fun w' hSw=>hSw.c1) ?_
  refine rgV 4 (.int .u8 (IntKind.u8.wrap (K:Int))) ?_ ?_
  ·(intro w' hSw;(try dsimp only at hSw);go_simp <;> rfl)
  refine rgT 6 ?_
  refine rgK 7 (fun w' hSw=>hSw.c2) ?_
  refine rgT 8 ?_
  refine rgT 9 ?_
  refine zc6 (w1:=w1.drew.alloc (.cells #[.int .u8 (IntKind.u8.wrap (F:Int)),.int .u8 (IntKind.u8.wrap (K:Int))] 5)) (i:=10) (j:=5) (v:=.slice (some ⟨w1.heap.size,0,none⟩) 2 2) rfl rfl (by kernel_rfl) (by rfl) (by rfl) (HCS.out _) (fun w=>by kernel_rfl) ?_ (hHeld.new _) (fun hHeld=>?_) ?_
  ·(go_simp <;> with_reducible rfl)
  ·refine rgN ?_
   refine zae (i:=10) rfl (by kernel_rfl) (by rfl) (HCS.out _) (fun w=>by kernel_rfl) ?_
   rintro e w2 ⟨rfl,rfl⟩
   refine ⟨_,rfl,hHeld,fun hHeld=>?_⟩
   refine rgN ?_
   have SZ1:=SZO.out
   refine zae (i:=11) rfl (by kernel_rfl) (by rfl) (zd5 (w1.drew.alloc (.cells #[.int .u8 (IntKind.u8.wrap (F:Int)),.int .u8 (IntKind.u8.wrap (K:Int))] 5)) w1.drew.heap.size (w1.drew.heap.size+1) (some ⟨w1.drew.heap.size,0,none⟩) 2 2 [UInt8.ofNat F,UInt8.ofNat K] (zk8 w1.drew F K) (by simp) (by decide) N SZ SZ1.1.1 SZ1.1.2 SZ1.2) (fun w=>by kernel_rfl) ?_
   rintro e w3 ⟨v3,rfl,ho3,hb3⟩
   have SD3:=hide (hHeld.on hb3)
   have HO3:=hide (zcq ho3 (Nat.le_trans ST.out.bl.size (show w1.heap.size≤(w1.drew.alloc (.cells #[.int .u8 (IntKind.u8.wrap (F:Int)),.int .u8 (IntKind.u8.wrap (K:Int))] 5)).heap.size by simp)))
   clear ho3 hb3
   refine ⟨_,rfl,SD3.out,fun hHeld=>?_⟩
   refine rgN ?_
   refine rgT 12 ?_
   refine rgT 13 ?_
   refine rgT 14 ?_
   refine rgT 15 ?_
   refine rgT 16 ?_
   refine wpAnyH_done (by kernel_rfl) ?_ _
   obtain ⟨A3,c3,rfl,_,_⟩:=zac HO3.out
   have c2:=SD3.out.c2
   have HAX:=hide SD3.out.v
   have hz3:=SD3.out.bl.size
   have HBL:=hide SD3.out.bl
   go_wp2_with (at_builtin;go_must (refine zag _ rfl (.tmp 50) (.tmp 52) 36 rfl w.heap.size 5 i0 Tryz.underlying36 hi0 hz0 hz1 hz2 (.slice A3 (2+SZ) c3) (2+SZ) ([UInt8.ofNat F,UInt8.ofNat K]++be SZ N) rfl HO3.out lo hi A N c vb rfl HAX.out (by omega) hz3 ?_);intro v4 w4 hown4 hg4 hat4;have HO4:=hide hown4;have HG4:=hide hg4;clear hown4 hg4 hat4)
   go_ret2
   refine ⟨v4,by rw [HE.out];rfl,?_,HBL.out.grown HG4.out hz3 (fun g hg=>(HO3.out.lt g hg).1)⟩
   have hout:zf4 ⟨F0,K,vb⟩=([UInt8.ofNat F,UInt8.ofNat K]++be SZ N)++vb:=by unfold zf4;rw [if_pos HE.out];exact HCC.out
   rw [hout,List.length_append,List.length_append,zb5,HVL.out]
   exact HO4.out
  ·rintro e w2 ⟨rfl,rfl⟩
   refine ⟨_,rfl,hHeld,fun hHeld=>?_⟩
   refine rgN ?_
   refine zaC (w':=w1.drew.alloc (.cells #[.int .u8 (IntKind.u8.wrap (F:Int)),.int .u8 (IntKind.u8.wrap (K:Int))] 5)) (i:=5) (v:=.slice (some ⟨w1.heap.size,0,none⟩) 2 2) rfl (by kernel_rfl) (by rfl) ?_ (hHeld.new _) (fun hHeld=>?_)
   ·(go_simp <;> with_reducible rfl)
   refine rgN ?_
   have SZ1:=SZO.out
   refine zae (i:=11) rfl (by kernel_rfl) (by rfl) (zd5 (w1.drew.alloc (.cells #[.int .u8 (IntKind.u8.wrap (F:Int)),.int .u8 (IntKind.u8.wrap (K:Int))] 5)) w1.drew.heap.size (w1.drew.heap.size+1) (some ⟨w1.drew.heap.size,0,none⟩) 2 2 [UInt8.ofNat F,UInt8.ofNat K] (zk8 w1.drew F K) (by simp) (by decide) N SZ SZ1.1.1 SZ1.1.2 SZ1.2) (fun w=>by kernel_rfl) ?_
   rintro e w3 ⟨v3,rfl,ho3,hb3⟩
   have SD3:=hide (hHeld.on hb3)
   have HO3:=hide (zcq ho3 (Nat.le_trans ST.out.bl.size (show w1.heap.size≤(w1.drew.alloc (.cells #[.int .u8 (IntKind.u8.wrap (F:Int)),.int .u8 (IntKind.u8.wrap (K:Int))] 5)).heap.size by simp)))
   clear ho3 hb3
   refine ⟨_,rfl,SD3.out,fun hHeld=>?_⟩
   refine rgN ?_
   refine rgT 12 ?_
   refine rgT 13 ?_
   refine rgT 14 ?_
   refine rgT 15 ?_
   refine rgT 16 ?_
   refine wpAnyH_done (by kernel_rfl) ?_ _
   obtain ⟨A3,c3,rfl,_,_⟩:=zac HO3.out
   have c2:=SD3.out.c2
   have HAX:=hide SD3.out.v
   have hz3:=SD3.out.bl.size
   have HBL:=hide SD3.out.bl
   go_wp2_with (at_builtin;go_must (refine zag _ rfl (.tmp 50) (.tmp 52) 36 rfl w.heap.size 5 i0 Tryz.underlying36 hi0 hz0 hz1 hz2 (.slice A3 (2+SZ) c3) (2+SZ) ([UInt8.ofNat F,UInt8.ofNat K]++be SZ N) rfl HO3.out lo hi A N c vb rfl HAX.out (by omega) hz3 ?_);intro v4 w4 hown4 hg4 hat4;have HO4:=hide hown4;have HG4:=hide hg4;clear hown4 hg4 hat4)
   go_ret2
   refine ⟨v4,by rw [HE.out];rfl,?_,HBL.out.grown HG4.out hz3 (fun g hg=>(HO3.out.lt g hg).1)⟩
   have hout:zf4 ⟨F0,K,vb⟩=([UInt8.ofNat F,UInt8.ofNat K]++be SZ N)++vb:=by unfold zf4;rw [if_pos HE.out];exact HCC.out
   rw [hout,List.length_append,List.length_append,zb5,HVL.out]
   exact HO4.out
 ·have hbI:¬ (255:Int)<(N:Int):=by omega
  obtain ⟨F,hF⟩:∃ F,flR ⟨F0,K,vb⟩=F:=⟨_,rfl⟩
  have hFv:F=F0:=by
   rw [← hF]
   unfold flR
   show (if 255<vb.length then (F0:Int).toNat+16 else (F0:Int).toNat)=_
   rw [HVL.out,Int.toNat_natCast]
   first | rw [if_pos hb] | rw [if_neg hb]
  rw [hF] at HC HFS
  obtain ⟨SZ,hSZ⟩:∃ SZ,szR N=SZ:=⟨_,rfl⟩
  have hs2:(if zb9 F=true then 2 else 1:Nat)=SZ:=by
   rw [HFS.out.2,← hSZ]
   show szR vb.length=_
   rw [HVL.out]
  rw [hSZ] at SZO
  have hf9:F<256:=HFS.out.1
  have HCS:=hide (fun (x:World)=>zeI x F hf9)
  rw [hs2] at HCS
  have HCC:Hid (zbd ⟨F0,K,vb⟩=([UInt8.ofNat F,UInt8.ofNat K]++be SZ N)++vb):=hide (by
   rw [HC.out]
   show ([UInt8.ofNat F,UInt8.ofNat (K:Int).toNat]++be (szR vb.length) vb.length)++vb=_
   rw [Int.toNat_natCast,HVL.out,hSZ])
  clear hF HC hSZ hs2 HFS hf9
  subst hFv
  go_enter Tryz.func40,Tryz.ntmps40
  go_wp2_with (first
    | (go_at_call 43;refine (zaJ _ _ _ _).mono ?_;rintro e wq ⟨rfl,rfl⟩;rw [HF.out])
    | (go_at_call 43;refine (zaJ _ _ _ _).mono ?_;rintro e wq ⟨rfl,rfl⟩;rw [HK.out]))
  generalize hw1:w.alloc (.cells (rawC ⟨F,K,A,N,c,vb⟩) 89)=w1 at *
  clear hw1 c0 c1 c2
  refine wp_region_held_drew (S:=fun x=>WhS w x lo hi ⟨F,K,A,N,c,vb⟩) (by kernel_rfl) ST.out.drew (fun hHeld=>?_)
  refine rgT 0 ?_
  refine rgV 1 (.int .u8 (IntKind.u8.wrap (F:Int))) ?_ ?_
  ·(intro w' hSw;(try dsimp only at hSw);go_simp <;> rfl)
  refine rgT 2 ?_
  refine rgK 3 (fun w' hSw=>hSw.c1) ?_
  refine rgV 4 (.int .u8 (IntKind.u8.wrap (K:Int))) ?_ ?_
  ·(intro w' hSw;(try dsimp only at hSw);go_simp <;> rfl)
  refine rgT 6 ?_
  refine rgK 7 (fun w' hSw=>hSw.c2) ?_
  refine rgT 8 ?_
  refine rgT 9 ?_
  refine zc6 (w1:=w1.drew.alloc (.cells #[.int .u8 (IntKind.u8.wrap (F:Int)),.int .u8 (IntKind.u8.wrap (K:Int))] 5)) (i:=10) (j:=5) (v:=.slice (some ⟨w1.heap.size,0,none⟩) 2 2) rfl rfl (by kernel_rfl) (by rfl) (by rfl) (HCS.out _) (fun w=>by kernel_rfl) ?_ (hHeld.new _) (fun hHeld=>?_) ?_
  ·(go_simp <;> with_reducible rfl)
  ·refine rgN ?_
   refine zae (i:=10) rfl (by kernel_rfl) (by rfl) (HCS.out _) (fun w=>by kernel_rfl) ?_
   rintro e w2 ⟨rfl,rfl⟩
   refine ⟨_,rfl,hHeld,fun hHeld=>?_⟩
   refine rgN ?_
   have SZ1:=SZO.out
   refine zae (i:=11) rfl (by kernel_rfl) (by rfl) (zd5 (w1.drew.alloc (.cells #[.int .u8 (IntKind.u8.wrap (F:Int)),.int .u8 (IntKind.u8.wrap (K:Int))] 5)) w1.drew.heap.size (w1.drew.heap.size+1) (some ⟨w1.drew.heap.size,0,none⟩) 2 2 [UInt8.ofNat F,UInt8.ofNat K] (zk8 w1.drew F K) (by simp) (by decide) N SZ SZ1.1.1 SZ1.1.2 SZ1.2) (fun w=>by kernel_rfl) ?_
   rintro e w3 ⟨v3,rfl,ho3,hb3⟩
   have SD3:=hide (hHeld.on hb3)
   have HO3:=hide (zcq ho3 (Nat.le_trans ST.out.bl.size (show w1.heap.size≤(w1.drew.alloc (.cells #[.int .u8 (IntKind.u8.wrap (F:Int)),.int .u8 (IntKind.u8.wrap (K:Int))] 5)).heap.size by simp)))
   clear ho3 hb3
   refine ⟨_,rfl,SD3.out,fun hHeld=>?_⟩
   refine rgN ?_
   refine rgT 12 ?_
   refine rgT 13 ?_
   refine rgT 14 ?_
   refine rgT 15 ?_
   refine rgT 16 ?_
   refine wpAnyH_done (by kernel_rfl) ?_ _
   obtain ⟨A3,c3,rfl,_,_⟩:=zac HO3.out
   have c2:=SD3.out.c2
   have HAX:=hide SD3.out.v
   have hz3:=SD3.out.bl.size
   have HBL:=hide SD3.out.bl
   go_wp2_with (at_builtin;go_must (refine zag _ rfl (.tmp 50) (.tmp 52) 36 rfl w.heap.size 5 i0 Tryz.underlying36 hi0 hz0 hz1 hz2 (.slice A3 (2+SZ) c3) (2+SZ) ([UInt8.ofNat F,UInt8.ofNat K]++be SZ N) rfl HO3.out lo hi A N c vb rfl HAX.out (by omega) hz3 ?_);intro v4 w4 hown4 hg4 hat4;have HO4:=hide hown4;have HG4:=hide hg4;clear hown4 hg4 hat4)
   go_ret2
   refine ⟨v4,by rw [HE.out];rfl,?_,HBL.out.grown HG4.out hz3 (fun g hg=>(HO3.out.lt g hg).1)⟩
   have hout:zf4 ⟨F,K,vb⟩=([UInt8.ofNat F,UInt8.ofNat K]++be SZ N)++vb:=by unfold zf4;rw [if_pos HE.out];exact HCC.out
   rw [hout,List.length_append,List.length_append,zb5,HVL.out]
   exact HO4.out
  ·rintro e w2 ⟨rfl,rfl⟩
   refine ⟨_,rfl,hHeld,fun hHeld=>?_⟩
   refine rgN ?_
   refine zaC (w':=w1.drew.alloc (.cells #[.int .u8 (IntKind.u8.wrap (F:Int)),.int .u8 (IntKind.u8.wrap (K:Int))] 5)) (i:=5) (v:=.slice (some ⟨w1.heap.size,0,none⟩) 2 2) rfl (by kernel_rfl) (by rfl) ?_ (hHeld.new _) (fun hHeld=>?_)
   ·(go_simp <;> with_reducible rfl)
   refine rgN ?_
   have SZ1:=SZO.out
   refine zae (i:=11) rfl (by kernel_rfl) (by rfl) (zd5 (w1.drew.alloc (.cells #[.int .u8 (IntKind.u8.wrap (F:Int)),.int .u8 (IntKind.u8.wrap (K:Int))] 5)) w1.drew.heap.size (w1.drew.heap.size+1) (some ⟨w1.drew.heap.size,0,none⟩) 2 2 [UInt8.ofNat F,UInt8.ofNat K] (zk8 w1.drew F K) (by simp) (by decide) N SZ SZ1.1.1 SZ1.1.2 SZ1.2) (fun w=>by kernel_rfl) ?_
   rintro e w3 ⟨v3,rfl,ho3,hb3⟩
   have SD3:=hide (hHeld.on hb3)
   have HO3:=hide (zcq ho3 (Nat.le_trans ST.out.bl.size (show w1.heap.size≤(w1.drew.alloc (.cells #[.int .u8 (IntKind.u8.wrap (F:Int)),.int .u8 (IntKind.u8.wrap (K:Int))] 5)).heap.size by simp)))
   clear ho3 hb3
   refine ⟨_,rfl,SD3.out,fun hHeld=>?_⟩
   refine rgN ?_
   refine rgT 12 ?_
   refine rgT 13 ?_
   refine rgT 14 ?_
   refine rgT 15 ?_
   refine rgT 16 ?_
   refine wpAnyH_done (by kernel_rfl) ?_ _
   obtain ⟨A3,c3,rfl,_,_⟩:=zac HO3.out
   have c2:=SD3.out.c2
   have HAX:=hide SD3.out.v
   have hz3:=SD3.out.bl.size
   have HBL:=hide SD3.out.bl
   go_wp2_with (at_builtin;go_must (refine zag _ rfl (.tmp 50) (.tmp 52) 36 rfl w.heap.size 5 i0 Tryz.underlying36 hi0 hz0 hz1 hz2 (.slice A3 (2+SZ) c3) (2+SZ) ([UInt8.ofNat F,UInt8.ofNat K]++be SZ N) rfl HO3.out lo hi A N c vb rfl HAX.out (by omega) hz3 ?_);intro v4 w4 hown4 hg4 hat4;have HO4:=hide hown4;have HG4:=hide hg4;clear hown4 hg4 hat4)
   go_ret2
   refine ⟨v4,by rw [HE.out];rfl,?_,HBL.out.grown HG4.out hz3 (fun g hg=>(HO3.out.lt g hg).1)⟩
   have hout:zf4 ⟨F,K,vb⟩=([UInt8.ofNat F,UInt8.ofNat K]++be SZ N)++vb:=by unfold zf4;rw [if_pos HE.out];exact HCC.out
   rw [hout,List.length_append,List.length_append,zb5,HVL.out]
   exact HO4.out
set_option maxHeartbeats 2000000 in
theorem zta (w:World) (lo hi:Nat) (A:Option Addr) (N c:Nat) (f k:Int) (vb:List UInt8) (h:At w lo hi A N vb) (hh:hi≤w.heap.size) (he:za6 ⟨f,k,vb⟩≠0) :
  Calls Tryz.prog 40 #[.agg (rawC ⟨f,k,A,N,c,vb⟩)] w (zdb w ⟨f,k,vb⟩):=by
 have HVL:=hide h.len
 have ST:Hid (WhS w (w.alloc (.cells (rawC ⟨f,k,A,N,c,vb⟩) 89)) lo hi ⟨f,k,A,N,c,vb⟩):=hide ⟨Blk.new w _ _,h.alloc hh _,(Below.refl _ _).alloc (Nat.le_refl _) _,hh⟩
 have c0:=ST.out.c0
 have c1:=ST.out.c1
 have c2:=ST.out.c2
 by_cases h1:0≤f∧f≤255
 ·obtain ⟨F,rfl⟩:∃ F:Nat,f=F:=⟨f.toNat,by omega⟩
  have HF:Hid (decide ((0:Int)≤(F:Int)∧(F:Int)≤255)=true):=hide (decide_eq_true h1)
  have ha:=zwY F (by omega)
  by_cases h2:zb9 F=true
  ·rw [if_pos h2] at ha
   have HE:Hid (za6 ⟨F,k,vb⟩=1):=hide (by
    unfold za6
    rw [if_pos (.inr (.inr (.inl (by show zb9 (F:Int).toNat=true;rw [Int.toNat_natCast];exact h2))))])
   clear h he h1 h2
   go_enter Tryz.func40,Tryz.ntmps40
   go_wp2_with (go_at_call 43;refine (zaJ _ _ _ _).mono ?_;rintro e wq ⟨rfl,rfl⟩;rw [HF.out])
   go_ret2
   exact zdb.no HE.out (by decide) ST.out.bl
  ·rw [if_neg h2] at ha
   have hl:zb9 F=false:=by simpa using h2
   by_cases h3:0≤k∧k≤255
   ·obtain ⟨K,rfl⟩:∃ K:Nat,k=K:=⟨k.toNat,by omega⟩
    have HK:Hid (decide ((0:Int)≤(K:Int)∧(K:Int)≤255)=true):=hide (decide_eq_true h3)
    have hn:¬ (((F:Nat):Int)<0∨255<(F:Int)∨zb9 (F:Int).toNat=true∨(K:Int)<0∨255<(K:Int)):=by
     rw [Int.toNat_natCast,hl]
     intro e
     rcases e with e | e | e | e | e <;> first | omega | cases e
    have h4:4096<vb.length:=by
     by_cases h4:4096<vb.length
     ·exact h4
     ·exact absurd (show za6 ⟨F,K,vb⟩=0 by unfold za6;rw [if_neg hn,if_neg h4]) he
    have HE:Hid (za6 ⟨F,K,vb⟩=2):=hide (by unfold za6;rw [if_neg hn,if_pos h4])
    rw [HVL.out] at h4
    have h5:(4096:Int)<(N:Int):=by omega
    clear h he h1 h2 h3 h4 hn hl
    go_enter Tryz.func40,Tryz.ntmps40
    go_wp2_with (first
    | (go_at_call 43;refine (zaJ _ _ _ _).mono ?_;rintro e wq ⟨rfl,rfl⟩;rw [HF.out])
    | (go_at_call 43;refine (zaJ _ _ _ _).mono ?_;rintro e wq ⟨rfl,rfl⟩;rw [HK.out]))
    go_ret2
    exact zdb.no HE.out (by decide) ST.out.bl
   ·have HK:Hid (decide ((0:Int)≤k∧k≤255)=false):=hide (decide_eq_false h3)
    have HE:Hid (za6 ⟨F,k,vb⟩=1):=hide (by
     unfold za6
     rw [if_pos (by by_cases h5:k<0;exact .inr (.inr (.inr (.inl h5)));exact .inr (.inr (.inr (.inr (by show 255<k;omega)))))])
    clear h he h1 h2 h3 hl
    go_enter Tryz.func40,Tryz.ntmps40
    go_wp2_with (first
    | (go_at_call 43;refine (zaJ _ _ _ _).mono ?_;rintro e wq ⟨rfl,rfl⟩;rw [HF.out])
    | (go_at_call 43;refine (zaJ _ _ _ _).mono ?_;rintro e wq ⟨rfl,rfl⟩;rw [HK.out]))
    go_ret2
    exact zdb.no HE.out (by decide) ST.out.bl
 ·have HF:Hid (decide ((0:Int)≤f∧f≤255)=false):=hide (decide_eq_false h1)
  have HE:Hid (za6 ⟨f,k,vb⟩=1):=hide (by
   unfold za6
   rw [if_pos (by by_cases h5:f<0;exact .inl h5;exact .inr (.inl (by show 255<f;omega)))])
  clear h he h1
  go_enter Tryz.func40,Tryz.ntmps40
  go_wp2_with (go_at_call 43;refine (zaJ _ _ _ _).mono ?_;rintro e wq ⟨rfl,rfl⟩;rw [HF.out])
  go_ret2
  exact zdb.no HE.out (by decide) ST.out.bl
theorem zqg (w:World) (lo hi:Nat) (x:RawP) (h:At w lo hi x.A x.n x.v) (hh:hi≤w.heap.size) :
  Calls Tryz.prog 40 #[.agg (rawC x)] w (zdb w x.raw):=by
 obtain ⟨f,k,A,N,c,vb⟩:=x
 by_cases he:za6 ⟨f,k,vb⟩=0
 ·by_cases hc:f<0∨255<f∨zb9 f.toNat=true∨k<0∨255<k
  ·unfold za6 at he
   rw [if_pos hc] at he
   exact absurd he (by decide)
  ·obtain ⟨F,rfl⟩:∃ F:Nat,f=F:=⟨f.toNat,by omega⟩
   obtain ⟨K,rfl⟩:∃ K:Nat,k=K:=⟨k.toNat,by omega⟩
   rw [Int.toNat_natCast] at hc
   have hl:zb9 F=false:=by
    cases h9:zb9 F
    ·rfl
    ·exact absurd (.inr (.inr (.inl h9))) hc
   exact zqf w lo hi A N c F K vb h hh (by omega) hl (by omega) (by have:=zhf he;have h2:=h.len;dsimp only at this h2;omega)
 ·exact zta w lo hi A N c f k vb h hh he
def zjY (l:List Rw):List UInt8:=if zbQ l=0 then zbf l else []
def zmq (w:World) (l:List Rw) (e:Ending) (w':World):Prop :=
 ∃ v,e = .returned (.tuple #[v,.int .i64 (zbQ l)])∧w'.ownsRow w.heap.size 5 1 v (zjY l).length (bvs (zjY l))∧Below w.heap.size w w'
theorem zlN (w:World) (lo hi:Nat) (A:Option Addr) (n c:Nat) (l:List RawP) (h:zbT w lo hi A n l) (hh:hi≤w.heap.size) (hn:n≤1000000) :
  Calls Tryz.prog 39 #[.slice A n c,.func (.func 40) #[] #[]] w (zmq w (l.map RawP.raw)):=by
 obtain ⟨i0,hi0,hz0,hz1,hz2⟩:=info_parts zbz
 have H:=hide h
 have HXL:=hide h.len
 have HM:Hid (∀ (k:Nat) (x:RawP),l[k]?=some x→(l.map RawP.raw)[k]?=some x.raw):=hide (fun k x hx=>by rw [List.getElem?_map,hx];rfl)
 have HML:Hid ((l.map RawP.raw).length=n):=hide (by rw [List.length_map];exact h.len)
 obtain ⟨L,hL⟩:∃ L,l.map RawP.raw=L:=⟨_,rfl⟩
 rw [hL] at HM HML ⊢
 clear h hL
 go_enter Tryz.func39,Tryz.ntmps39
 go_wp2_with fail
 go_loopw [6,13] (fun v i wr=>∃ (k c3:Nat) (B:Option Addr),k≤n∧v = .slice B (zbf (L.take k)).length c3∧i = .int .i64 k∧wr.ownsRow w.heap.size 5 1 (.slice B (zbf (L.take k)).length c3) (zbf (L.take k)).length (bvs (zbf (L.take k)))∧zbQ (L.take k)=0∧Below w.heap.size w wr) (fun _ i _=>n-(intOf i).toNat)
 case atStart=>exact ⟨0,0,none,Nat.zero_le _,rfl,rfl,World.ownsRow_nil _ _ _ _,rfl,Below.refl _ _⟩
 case round =>
  obtain ⟨k,c3,B,hk,rfl,rfl,hown,hrt,hbel⟩:=hrel
  have HO:=hide hown
  have WB:=hide hbel
  have HRT:=hide hrt
  clear hown hbel hrt
  by_cases hlt:k<n
  ·have Yr:=hide (H.out.below (w':=wr) (WB.out.mono hh))
   obtain ⟨b,o,x,rfl,hb1,hb2,hx,hat,hv,hnc⟩:=Yr.out.at_ hlt
   have HX:=hide (HM.out k x hx)
   have HAT:=hide hat
   have HV:=hide hv
   have HLEN:Hid ((zbf (L.take k)).length≤k*4100):=hide (by have:=zgc HRT.out;rwa [List.length_take,Nat.min_eq_left (by rw [HML.out];exact hk)] at this)
   have NEW:=hide (Blk.new wr 89 #[.int .i64 0,.int .i64 0,.slice none 0 0])
   clear hx hat hv hnc
   generalize hR:zbf (L.take k)=R at *
   have HRR:=hide hR
   clear hR
   go_wp2_with (first
    | ((with_reducible refine zcY rfl (.tmp 15) rfl (b:=b) (i:=o+k*3) rfl HAT.out ?_))
    | (refine zb8 rfl (.tmp 8) (.tmp 16) rfl wr.heap.size rfl x rfl NEW.out rfl ?_;intro w2 hb2 hg2;have B2:=hide hb2;have W2:Hid (Below wr.heap.size wr w2):=hide (((Below.refl _ _).alloc (Nat.le_refl _) _).grown hg2 (by simp) (by simp));clear hb2 hg2;refine Hid.out ?_))
   refine hide ?_
   have HO2:=hide (zaR HO.out W2.out)
   have WB2:=hide (zaa WB.out W2.out (Nat.le_refl _))
   have HV2:=hide (HV.out.below (W2.out.mono (Nat.le_trans hh WB.out.size)))
   clear NEW
   go_wp2_with (with_reducible refine zbY rfl (.tmp 8) rfl wr.heap.size rfl B2.out ?_)
   refine (zqg w2 lo hi x HV2.out (Nat.le_trans hh WB2.out.size)).mono ?_
   rintro e w3 ⟨v3,rfl,ho3,hb3⟩
   obtain ⟨A3,c4,rfl,_,_⟩:=zac ho3
   have AT3:=hide (At.own ho3)
   have HO3:=hide (zaR HO2.out hb3)
   have WB3:=hide (zaa WB2.out hb3 (Nat.le_refl _))
   clear ho3 hb3 HO2 WB2 HO WB HV HV2
   by_cases he:za6 x.raw=0
   ·have hoB:Hid (zf4 x.raw=zbd x.raw):=hide (by unfold zf4;rw [if_pos he])
    have HS:=hide (zry x.raw)
    have HNX:=hide (znk HRT.out HX.out he)
    have HCN:=hide (zmj HX.out)
    rw [HRR.out] at HCN
    rw [hoB.out] at HS AT3
    rw [hoB.out,he]
    have hsz:=WB3.out.size
    generalize hcx:zbd x.raw=cx at *
    have HL:=hide HLEN.out
    clear he hcx hoB
    go_wp2_with (at_builtin;go_must (refine zag _ rfl (.tmp 26) (.tmp 27) 36 rfl w.heap.size 5 i0 Tryz.underlying36 hi0 hz0 hz1 hz2 (.slice B R.length c3) R.length R rfl HO3.out _ _ A3 cx.length c4 cx rfl AT3.out (by have h1:=HS.out;have h2:=HL.out;have h3:k*4100≤1000000*4100:=Nat.mul_le_mul_right _ (by omega);omega) hsz ?_);intro v1 w4 hown1 hg4 hat4;rw [← List.length_append,HCN.out] at hown1;have HO1:=hide hown1;have HG4:=hide hg4;clear hown1 hg4 hat4)
    obtain ⟨A4,c5,rfl,_,_⟩:=zac HO1.out
    go_roundw
    case rel=>exact ⟨k+1,c5,A4,by omega,rfl,by go_num,HO1.out,HNX.out,WB3.out.grown HG4.out hsz (fun g hg=>(HO3.out.lt g hg).1)⟩
    case measure=>simp [intOf];omega
   ·have HF:=hide (zme HRT.out HX.out he)
    have he2:(za6 x.raw != 0)=true:=by simpa using he
    clear he
    go_wp2_with fail
    go_ret2
    refine ⟨.slice none 0 0,by rw [HF.out];rfl,?_,WB3.out⟩
    have ho:zjY L=[]:=by unfold zjY;rw [HF.out,if_neg (by simpa using he2)]
    rw [ho]
    exact World.ownsRow_nil _ _ _ _
  ·have hkn:k=n:=by omega
   subst hkn
   have HT:Hid (L.take k=L):=hide (List.take_of_length_le (by rw [HML.out];exact Nat.le_refl _))
   rw [HT.out] at HO HRT
   have ho:zjY L=zbf L:=by unfold zjY;rw [if_pos HRT.out]
   have HOO:=hide ho
   clear ho
   go_wp2
   go_ret2
   refine ⟨.slice B (zbf L).length c3,?_,?_,WB.out⟩
   ·rw [HRT.out,HT.out];rfl
   ·rw [HOO.out];exact HO.out
def zuW (w:World) (l:List Rw) (e:Ending) (w':World):Prop :=
 ∃ v,e = .returned (.tuple #[v,.int .i64 (zds l)])∧w'.ownsRow w.heap.size 5 1 v (zcM l).length (bvs (zcM l))∧Below w.heap.size w w'
theorem zs0 (w:World) (lo hi:Nat) (A:Option Addr) (n c:Nat) (l:List RawP) (h:zbT w lo hi A n l) (hh:hi≤w.heap.size) :
  Calls Tryz.prog 20 #[.slice A n c] w (zuW w (l.map RawP.raw)):=by
 have hl:(l.map RawP.raw).length=n:=by rw [List.length_map];exact h.len
 by_cases h64:64<n
 ·have h64I:(64:Int)<(n:Int):=by omega
  have HE:Hid (zds (l.map RawP.raw)=2):=hide (by unfold zds;rw [if_pos (by omega)])
  clear h h64 hl
  go_enter Tryz.func20,Tryz.ntmps20
  go_wp2
  go_ret2
  refine ⟨.slice none 0 0,by rw [HE.out];rfl,?_,Below.refl _ _⟩
  unfold zcM
  rw [HE.out]
  exact World.ownsRow_nil _ _ _ _
 ·have h64I:¬ (64:Int)<(n:Int):=by omega
  have HE:Hid (zds (l.map RawP.raw)=zbQ (l.map RawP.raw)):=hide (by unfold zds;rw [if_neg (by omega)])
  have HC:=hide (zlN w lo hi A n c l h hh (by omega))
  clear h h64 hl
  go_enter Tryz.func20,Tryz.ntmps20
  go_wp2_with fail
  refine HC.out.mono ?_
  rintro e w1 ⟨v,rfl,ho,hb⟩
  go_wp2
  go_ret2
  refine ⟨v,by rw [HE.out];rfl,?_,hb⟩
  unfold zcM
  rw [HE.out]
  exact ho
end
section
open Go.RowKit
def zcW (x:Nat) (last:Bool):List UInt8:=be 3 (x*16+(if last then 1 else 0))
def zdM (bs:List UInt8):Bool:=decide (bs.length=3∧big bs%16≤1)
def zdN (bs:List UInt8):Int:=if zdM bs then ((big bs/16:Nat):Int) else 0
def zfu (bs:List UInt8):Bool:=zdM bs&&decide (big bs%2=1)
def zg2 (bs:List UInt8):Int:=if zdM bs then 0 else 4
theorem zrc {bs:List UInt8} (h:zdM bs=false):zdN bs=0∧zfu bs=false∧zg2 bs=4:=by
 unfold zdN zfu zg2
 rw [h]
 exact ⟨rfl,rfl,rfl⟩
theorem zn8 {bs:List UInt8} (h:zdM bs=true):zdN bs=((big bs/16:Nat):Int)∧zfu bs=decide (big bs%2=1)∧zg2 bs=0:=by
 unfold zdN zfu zg2
 rw [h]
 exact ⟨rfl,rfl,rfl⟩
end
section
open Go.RowKit
structure Tun where
 leaf:Bool
 k:Int
 l:Int
 s:Int
 bs:List UInt8
 id:List UInt8
def zdu (k s:Int) (id:List UInt8):Bool :=
 if k=0 then decide (s=0∧id.length=0)
 else if k=1 then decide (s=4∧id.length=6)
 else if k=2∨k=7 then decide (0<s∧id.length≤64)
 else if k=3∨k=4∨k=5 then decide (s=id.length)&&zcx (ofS id) (ofB id)
 else if k=6 then decide (0<s∧id.length=0)
 else false
def zcw (t:Tun):Bool:=decide (0≤t.l∧t.l≤1048575)&&(zaA t.s t.bs&&zdu t.k t.s t.id)
def zec (k s:Int):List UInt8:=[if k=7 then 7 else 6,0,if s=16 then 2 else 1,UInt8.ofNat s.toNat]
def zby (k s:Int) (bs id:List UInt8):List UInt8 :=
 if k=1 then id.take 4++([0,0]++(id.drop 4++zat s bs))
 else if k=2∨k=7 then zec k s++(zat s bs++(be 2 id.length++id))
 else if k=3∨k=4∨k=5 then zat s bs++id
 else zat s bs
def zne (t:Tun):List UInt8:=[if t.leaf then 1 else 0,UInt8.ofNat t.k.toNat]
def zeJ (t:Tun):List UInt8:=zne t++(zcW t.l.toNat false++zby t.k t.s t.bs t.id)
def zdr (k:Int) (r:List UInt8):List UInt8 × List UInt8 :=
 if k=1 then (zaf (zaf (zaf r 4) 2) 2,zab r 4++zab (zaf (zaf r 4) 2) 2)
 else if k=2∨k=7 then (zab (zaf (zaf r 3) 1) (big (zab (zaf r 3) 1):Nat),zaf (zaf (zaf (zaf r 3) 1) (big (zab (zaf r 3) 1):Nat)) 2)
 else if k=3∨k=4∨k=5 then (zab r ((r.length/2:Nat):Int),zaf r ((r.length/2:Nat):Int))
 else (r,[])
def zop (b:List UInt8):Bool:=decide (big (zab b 1)=1)
def zjm (b:List UInt8):Nat:=big (zab (zaf b 1) 1)
def numR (b:List UInt8):Int:=zdN (zab (zaf (zaf b 1) 1) 3)
def zmC (b:List UInt8):List UInt8:=zaf (zaf (zaf b 1) 1) 3
def zfE (b:List UInt8):Tun :=
 ⟨zop b,zjm b,numR b,ofS (zdr (zjm b) (zmC b)).1,ofB (zdr (zjm b) (zmC b)).1,(zdr (zjm b) (zmC b)).2⟩
def zua:Tun:=⟨false,0,0,0,zay,[]⟩
def zjX (b:List UInt8):Bool:=zcw (zfE b)&&decide (zeJ (zfE b)=b)
def zcp (b:List UInt8):Tun:=if zjX b then zfE b else zua
def zoi (b:List UInt8):Int:=if zjX b then 0 else 4
theorem zj2 {k s:Int} {id:List UInt8} (h:zdu k s id=true):k=0∨k=1∨k=2∨k=3∨k=4∨k=5∨k=6∨k=7:=by
 unfold zdu at h
 by_cases h0:k=0
 ·omega
 ·by_cases h1:k=1
  ·omega
  ·by_cases h2:k=2∨k=7
   ·omega
   ·by_cases h3:k=3∨k=4∨k=5
    ·omega
    ·by_cases h6:k=6
     ·omega
     ·rw [if_neg h0,if_neg h1,if_neg h2,if_neg h3,if_neg h6] at h
      cases h
theorem zdq {s:Int} {bs:List UInt8} (h:zaA s bs=true):s=0∨s=4∨s=16:=by
 unfold zaA at h
 simp only [Bool.and_eq_true] at h
 exact of_decide_eq_true h.1
theorem zwg {s:Nat} {bs:List UInt8} (hl:bs.length=16) (hs:s≤16) (hz:(bs.drop s).all (· == 0)=true):pad (bs.take s)=bs:=by
 unfold pad
 have h1:(bs.take s).length=s:=by rw [List.length_take];omega
 rw [h1]
 have h2:bs.drop s=List.replicate (16-s) 0:=by
  rw [List.eq_replicate_iff]
  refine ⟨by rw [List.length_drop,hl],fun b hb=>?_⟩
  rw [List.all_eq_true] at hz
  exact eq_of_beq (hz b hb)
 rw [← h2,List.take_append_drop]
theorem zeK {s:Int} {bs:List UInt8} (hl:bs.length=16) (h:zaA s bs=true):(zat s bs).length=s.toNat:=by
 have:=zdq h
 unfold zat
 rw [if_pos h,List.length_take]
 omega
theorem zlS {s:Int} {bs:List UInt8} (hl:bs.length=16) (h:zaA s bs=true):ofS (zat s bs)=s∧ofB (zat s bs)=bs:=by
 have h3:=zdq h
 have hn:=zeK hl h
 have hs:zde (zat s bs).length=true:=by
  rw [hn];unfold zde;exact decide_eq_true (by omega)
 unfold ofS ofB
 rw [if_pos hs,if_pos hs]
 refine ⟨by rw [hn];omega,?_⟩
 have hz:(bs.drop s.toNat).all (· == 0)=true:=by
  unfold zaA at h
  simp only [Bool.and_eq_true] at h
  exact h.2
 unfold zat
 rw [if_pos h]
 exact zwg hl (by omega) hz
theorem zb0 (xs:List UInt8):(ofB xs).length=16:=by
 unfold ofB
 split
 ·rename_i h
  have:xs.length≤16:=by
   have h':((xs.length:Nat):Int)=0∨((xs.length:Nat):Int)=4∨((xs.length:Nat):Int)=16:=of_decide_eq_true h
   omega
  unfold pad
  rw [List.length_append,List.length_replicate]
  omega
 ·rfl
theorem zob (b:List UInt8):(zfE b).bs.length=16:=zb0 _
theorem zrt (b:List UInt8):(zcp b).bs.length=16:=by
 unfold zcp
 split
 ·exact zob b
 ·rfl
end
section
open Go.Sort
def B8:Type:={ l:List UInt8 // l.length=8 }
instance:Inhabited B8:=⟨⟨List.replicate 8 0,rfl⟩⟩
instance:DecidableEq B8:=fun a b=>decidable_of_iff (a.1=b.1) ⟨fun h=>Subtype.ext h,fun h=>by rw [h]⟩
def cf8 (x y:B8):Int:=Lib.compareBytes x.1 y.1
def lt8 (x y:B8):Prop:=cf8 x y<0
instance (x y:B8):Decidable (lt8 x y):=inferInstanceAs (Decidable (_<_))
def insL (x:B8):List B8→List B8
 | []=>[x]
 | y::l=>if lt8 x y then x::y::l else if x=y then y::l else y::insL x l
theorem zug (x z:B8):∀ l,z∈insL x l↔z=x∨z∈l
 | []=>by simp [insL]
 | y::l=>by
  unfold insL
  split
  ·simp
  ·split
   ·rename_i e;subst e;simp
   ·rw [List.mem_cons,zug x z l,List.mem_cons]
    constructor
    ·rintro (h | h | h)
     ·exact .inr (.inl h)
     ·exact .inl h
     ·exact .inr (.inr h)
    ·rintro (h | h | h)
     ·exact .inr (.inl h)
     ·exact .inl h
     ·exact .inr (.inr h)
open Go.RowKit
open Go.Sort (HoldsK putRowK flatK)
def zbb:List B8→List UInt8
 | []=>[]
 | x::l=>x.1++zbb l
theorem zcB:∀ l,(zbb l).length=l.length*8
 | []=>rfl
 | x::l=>by unfold zbb;rw [List.length_append,x.2,zcB l,List.length_cons];omega
theorem zfd:∀ a b,zbb (a++b)=zbb a++zbb b
 | [],b=>rfl
 | x::a,b=>by show x.1++zbb (a++b)=(x.1++zbb a)++zbb b;rw [zfd a b,List.append_assoc]
theorem zpM:∀ (l:List B8) (k:Nat),(zbb l).take (k*8)=zbb (l.take k)
 | [],k=>by simp [zbb]
 | x::l,0=>by simp [zbb]
 | x::l,k+1=>by
  have hx:=x.2
  show (x.1++zbb l).take ((k+1)*8)=x.1++zbb (l.take k)
  rw [List.take_append,List.take_of_length_le (by omega),hx,show (k+1)*8-8=k*8 by omega,zpM l k]
theorem zj3:∀ (l:List B8) (k:Nat),(zbb l).drop (k*8)=zbb (l.drop k)
 | [],k=>by simp [zbb]
 | x::l,0=>by simp
 | x::l,k+1=>by
  have hx:=x.2
  show (x.1++zbb l).drop ((k+1)*8)=zbb (l.drop k)
  rw [List.drop_append,List.drop_of_length_le (by omega),hx,show (k+1)*8-8=k*8 by omega,zj3 l k,List.nil_append]
theorem zuq (l:List B8) (k:Nat) (h:k<l.length):((zbb l).drop (k*8)).take 8=(l[k]).1:=by
 rw [zj3,List.drop_eq_getElem_cons h]
 show (l[k].1++zbb (l.drop (k+1))).take 8=_
 rw [List.take_append_of_le_length (by rw [l[k].2];exact Nat.le_refl _),List.take_of_length_le (by rw [l[k].2];exact Nat.le_refl _)]
def AtE (w:World) (lo hi:Nat) (A:Option Addr) (n:Nat) (xs:List B8):Prop:=xs.length=n∧At w lo hi A (n*8) (zbb xs)
section
variable {w w':World} {lo hi lo' hi' n:Nat} {A:Option Addr} {xs:List B8}
theorem AtE.len (h:AtE w lo hi A n xs):xs.length=n:=h.1
theorem AtE.nil (w:World) (lo hi:Nat) (A:Option Addr):AtE w lo hi A 0 []:=⟨rfl,At.nil _ _ _ _⟩
theorem AtE.keep (h:AtE w lo hi A n xs) (hk:∀ p:Addr,lo≤p.block→p.block<hi→w'.cell? p=w.cell? p):AtE w' lo hi A n xs:=⟨h.1,h.2.keep hk⟩
theorem AtE.more (h:AtE w lo hi A n xs) (hl:lo'≤lo) (hh:hi≤hi'):AtE w lo' hi' A n xs:=⟨h.1,h.2.more hl hh⟩
theorem AtE.lt (h:AtE w lo hi A n xs):AtE w lo w.heap.size A n xs:=⟨h.1,h.2.lt⟩
theorem AtE.below (h:AtE w lo hi A n xs) (hb:Below hi w w'):AtE w' lo hi A n xs:=⟨h.1,h.2.below hb⟩
theorem AtE.drew (h:AtE w lo hi A n xs):AtE w.drew lo hi A n xs:=h
theorem AtE.alloc (h:AtE w lo hi A n xs) (hB:hi≤w.heap.size) (o:Obj):AtE (w.alloc o) lo hi A n xs:=⟨h.1,h.2.alloc hB o⟩
theorem AtE.grown (h:AtE w lo hi A n xs) {row:Option Nat} (hg:w.grownBy w' row) (hB:hi≤w.heap.size) (hr:∀ g,row=some g→g<lo∨hi≤g):AtE w' lo hi A n xs:=⟨h.1,h.2.grown hg hB hr⟩
theorem AtE.own {base:Nat} {e:TypeId} {c:Nat} (h:w.ownsRow base e 8 (.slice A n c) n (bvs (zbb xs))):AtE w base w.heap.size A n xs:=by
 have h1:(bvs (zbb xs)).length=n*8:=h.1
 rw [zba,zcB] at h1
 have hl:xs.length=n:=by omega
 refine ⟨hl,by rw [zcB,hl],fun hn=>?_⟩
 rcases h.2 with ⟨_,h0⟩ | ⟨g,cap,cur,hv,hb,hg,hnc,_,hcs,ht⟩
 ·omega
 ·injection hv with hA hv2 hv3
  subst hA
  have hlt:g<w.heap.size:=Blk.lt (t:=e) (cs:=cur) hg
  refine ⟨g,0,rfl,hb,hlt,fun j u hu=>?_⟩
  have hjl:j<n*8:=by
   have:=(List.getElem?_eq_some_iff.1 hu).1
   rw [zcB] at this;omega
  have hc:=Blk.cell (t:=e) (cs:=cur) hg j
  rw [Nat.zero_add,hc]
  have h2:(cur.toList.take (n*8))[j]?=some (bv u):=by rw [ht];unfold bvs;rw [List.getElem?_map,hu];rfl
  rw [List.getElem?_take,if_pos hjl] at h2
  simpa using h2
theorem AtE.at_ {k:Nat} (h:AtE w lo hi A n xs) (hk:k<n):∃ b o x,A=some ⟨b,o,none⟩∧lo≤b∧b<hi∧xs[k]?=some x∧At w lo hi (some ⟨b,o+k*8,none⟩) 8 x.1:=by
 obtain ⟨hl,hA⟩:=h
 obtain ⟨b,o,rfl,h1,h2,hc⟩:=hA.2 (by omega)
 have hk':k<xs.length:=by omega
 refine ⟨b,o,xs[k],rfl,h1,h2,List.getElem?_eq_getElem hk',(xs[k]).2,fun _=>⟨b,_,rfl,h1,h2,fun j u hu=>?_⟩⟩
 rw [Nat.add_assoc]
 refine hc (k*8+j) u ?_
 have hj:j<8:=by have:=(List.getElem?_eq_some_iff.1 hu).1;rw [(xs[k]).2] at this;exact this
 have e:=congrArg (fun l:List UInt8=>l[j]?) (zuq xs k hk')
 simp only [List.getElem?_take,hj,if_true,List.getElem?_drop] at e
 rw [e]
 exact hu
theorem AtE.cells (h:AtE w lo hi A n xs) (hn:0<n):∃ ad,A=some ad∧∀ j u,(bvs (zbb xs))[j]?=some u→w.cell? (ad.add j)=some u:=h.2.cells (by omega)
end
theorem At.elem {w:World} {lo hi b o:Nat} {bs:List UInt8} (h:At w lo hi (some ⟨b,o,none⟩) 8 bs):∀ j v,(bvs bs)[j]?=some v→w.cell? ((⟨b,o,none⟩:Addr).add j)=some v:=by
 obtain ⟨ad,e,hc⟩:=h.cells (by omega)
 injection e with e
 subst e
 exact hc
theorem zpo {w:World} {base:Nat} {e:TypeId} {v:Value} {n:Nat} {xs:List Value} (h:w.ownsRow base e 8 v n xs):∃ A c,v = .slice A n c∧n≤c∧c≤maxLen:=by
 rcases h.2 with ⟨rfl,rfl⟩ | ⟨g,cap,cur,rfl,_,_,h1,h2,_⟩
 ·exact ⟨_,_,rfl,Nat.le_refl _,Nat.zero_le _⟩
 ·exact ⟨_,_,rfl,h1,h2⟩
theorem zmX {w:World} {g base n cap:Nat} {e:TypeId} {cs:Array Value} {xs:List Value} (h:Blk w g e cs) (hb:base≤g) (hn:n≤cap) (hc:cap≤maxLen) (hs:cs.size=cap*8) (ht:cs.toList.take (n*8)=xs):w.ownsRow base e 8 (.slice (some ⟨g,0,none⟩) n cap) n xs:=by
 refine ⟨?_,.inr ⟨g,cap,cs,rfl,hb,h,hn,hc,hs,ht⟩⟩
 rw [← ht,List.length_take,Array.length_toList,hs];omega
end
end Go.Proofs.YtookpplebikfnaaGreatDoor
