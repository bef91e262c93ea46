/-
  Messages are written: Bytes of package message, in whatever memory, given what Right and body answer there. No condition beyond sizes that fit memory.
  Messages are compared: Same of package message, in whatever memory, given what sameUpdate answers. No condition beyond sizes that fit memory.
  Whether updates tell nothing, and are the same then: tellsNothing, sameUpdate of package message, in whatever memory, given what update's Same and Empty answer. No condition.
  Whether a message is right: Right of package message, in whatever memory, given what the part's Right and Same answer. No condition.
  Writing into the parts of a route that lies in a block; one cell; copy into its distinguisher. No condition.
  What withBits, writersOf and its closures of package mroute do, in whatever memory. No condition.
-/
import Derived.Test.YtjindligkhdddaaGreatDoorSDAU
set_option linter.unusedVariables false
set_option linter.unusedSimpArgs false
namespace Go.Proofs.YtjindligkhdddaaGreatDoor
section
open Go.RowKit
set_option maxRecDepth 20000 in
set_option maxHeartbeats 1000000 in
theorem zqy (w:World) (k:Int) (O U N F:List Value) (hm:MeOk O U N F) (b:List UInt8) (hk:0≤k∧k<256) (hl:b.length≤60000)
  (hR:Calls Tryz.prog 14 #[.agg (meC k O U N F)] (w.alloc (.cells (meC k O U N F) 56)) fun e w'=>e = .returned (.bool true)∧Below (w.alloc (.cells (meC k O U N F) 56)).heap.size (w.alloc (.cells (meC k O U N F) 56)) w')
  (hB:∀ x,Below w.heap.size w x→Calls Tryz.prog 15 #[.agg (meC k O U N F)] x (zwv x b)) :
  Calls Tryz.prog 9 #[.agg (meC k O U N F)] w fun e w'=>∃ v,e = .returned (.tuple #[v,.int .i64 0])∧w'.ownsRow w.heap.size 5 1 v (19+b.length) (bvs (zqM k b.length++b))∧Below w.heap.size w w':=by
 obtain ⟨i0,hi0,hz0,hz1,hz2⟩:=info_parts zbQ
 have B0:=hide (Blk.new w 56 (meC k O U N F))
 have W0:=hide ((Below.refl w.heap.size w).alloc (Nat.le_refl _) (.cells (meC k O U N F) 56))
 have HM:=hide hm
 have HR:=hide hR
 have HB:=hide hB
 have HK:=hide hk
 clear hm hR hB hk
 go_enter Tryz.func9,Tryz.ntmps9
 go_wp2_with (with_reducible refine zad rfl (zbN (.tmp 1) rfl w.heap.size rfl HM.out B0.out) ?_)
 refine HR.out.mono ?_
 rintro e w1 ⟨rfl,hb⟩
 have WB:=hide (zaa W0.out hb (Nat.le_refl _))
 have B1:=hide (B0.out.over hb)
 clear hb HR B0 W0
 go_wp2_with (with_reducible refine zad rfl (zbN (.tmp 1) rfl w.heap.size rfl HM.out B1.out) ?_)
 refine (HB.out w1 WB.out).mono ?_
 rintro e w2 ⟨A,c,rfl,hat,hc,hb⟩
 have W2:=hide (WB.out.trans (hb.mono WB.out.size))
 have B2:=hide (B1.out.over hb)
 have AT:=hide hat
 have k0:=(zk3 HM.out B2.out).1
 clear hb hat HB WB B1
 go_wp2_with fail
 refine (zs9 w2 k b.length HK.out hl).mono ?_
 rintro e w3 ⟨v,rfl,hown,hb⟩
 obtain ⟨A3,c3,rfl,hc3,_⟩:=zag hown
 have OW:=hide (zdD hown (Nat.le_trans W2.out.size (Nat.le_refl _)))
 have W3:=hide (W2.out.trans (hb.mono W2.out.size))
 have AT3:=hide (AT.out.below hb)
 have hs:=hb.size
 have hlt:∀ q,(Value.slice A3 19 c3).ownBlock=some q→w.heap.size≤q:=fun q hq=>(OW.out.lt q hq).1
 clear hown hb AT
 go_wp2_with (at_builtin;refine zap _ rfl _ _ 22 rfl w.heap.size 5 i0 Tryz.underlying22 hi0 hz0 hz1 hz2 (.slice A3 19 c3) 19 (zqM k b.length) rfl OW.out w1.heap.size w2.heap.size A b.length c b rfl AT3.out (by omega) W3.out.size ?_;intro v1 w4 hown1 hg1 hat1;have HO:=hide hown1;have HG:=hide hg1;clear hown1 hg1 hat1)
 have W4:=W3.out.grown HG.out W3.out.size hlt
 go_ret2
 exact ⟨v1,rfl,HO.out,W4⟩
end
section
open Go.RowKit
theorem zdT {z:World} {g:Nat} {k:Int} {O U N F:List Value} (hm:MeOk O U N F) (hr:z.rangeAt g 0 (meL k O U N F)) :
  z.cell? ⟨g,0,none⟩=some (.int .i64 k)∧z.rangeAt g 1 O∧z.rangeAt g 22 U∧z.rangeAt g 48 N∧z.rangeAt g 51 F :=
 ⟨hr 0 _ rfl,zdc [.int .i64 k] O (U++(N++F)) hr rfl,zdc (.int .i64 k::O) U (N++F) (by simpa [meL] using hr) (by simp [hm.o]),zdc (.int .i64 k::(O++U)) N F (by simpa [meL] using hr) (by simp [hm.o,hm.u]),zdc (.int .i64 k::(O++(U++N))) F [] (by simpa [meL] using hr) (by simp [hm.o,hm.u,hm.n])⟩
theorem zcT {o:Oper} {a:Act} {w:World} (p:Operand) (ho:o.op = .load 52 p) (b i:Nat) (hx:a.eval p = .pointer (some ⟨b,i,none⟩)) {U:List Value} (h:w.rangeAt b i U) (hl:U.length=26) :
  (execOp a.eval o).run Tryz.prog w = .ok (.value (.agg U.toArray)) w:=by
 unfold execOp
 simp only [ho,hx,Instr.loadAt,Instr.sureAddr,Sem.run_bind,Sem.run_pure,Result.andThen_ok,run_loadVar_mid w b i 52 _ _ h Tryz.underlying52 rfl (by rw [hl];kernel_rfl)]
def zoH (k k':Int) (f f':Int × Int) (x y:OpP) (su:Bool) (p q:NoP):Bool:=(k==k')&&(decide (f=f')&&(zhm x y&&(su&&zj4 p q)))
set_option maxRecDepth 20000 in
set_option maxHeartbeats 2000000 in
theorem zsQ (w:World) (lo hi lo' hi':Nat) (k k':Int) (f f':Int × Int) (x y:OpP) (U U':List Value) (p q:NoP) (su:Bool) (hm:MeOk (opL x) U (noL p) (famL f)) (hm':MeOk (opL y) U' (noL q) (famL f'))
  (hx:OpAt w lo hi x) (hy:OpAt w lo' hi' y) (hp:NoAt w lo hi p) (hq:NoAt w lo' hi' q) (hh:hi≤w.heap.size) (hh':hi'≤w.heap.size) (hn:x.fn≤100000000000000)
  (hU:∀ z,Below w.heap.size w z→Calls Tryz.prog 55 #[.agg U.toArray,.agg U'.toArray] z fun e z'=>e = .returned (.bool su)∧Below z.heap.size z z') :
  Calls Tryz.prog 30 #[.agg (meC k (opL x) U (noL p) (famL f)),.agg (meC k' (opL y) U' (noL q) (famL f'))] w fun e w'=>e = .returned (.bool (zoH k k' f f' x y su p q))∧Below w.heap.size w w':=by
 have S0:=hide (Two.start w 56 (meL k (opL x) U (noL p) (famL f)) (meL k' (opL y) U' (noL q) (famL f')) (X:=meC k (opL x) U (noL p) (famL f)) (Y:=meC k' (opL y) U' (noL q) (famL f')) rfl rfl)
 obtain ⟨c0,_,_,_,c5⟩:=zdT hm S0.out.x
 obtain ⟨d0,_,_,_,d5⟩:=zdT hm' S0.out.y
 have F1:=hide c5
 have F2:=hide d5
 obtain ⟨r2,h2⟩:∃ r,decide (f=f')=r:=⟨_,rfl⟩
 have H2:=hide h2
 obtain ⟨RES,hres⟩:∃ r,zoH k k' f f' x y su p q=r:=⟨_,rfl⟩
 have HRES:=hide (show RES=((k==k')&&(r2&&(zhm x y&&(su&&zj4 p q)))) by rw [← hres,← h2];rfl)
 have HM:=hide hm
 have HM':=hide hm'
 have HX:=hide hx
 have HY:=hide hy
 have HP:=hide hp
 have HQ:=hide hq
 have HU:=hide hU
 rw [hres]
 clear c5 d5 h2 hres hm hm' hx hy hp hq hU
 by_cases hk:k=k'
 rotate_left
 ·have e1:(k==k')=false:=beq_eq_false_iff_ne.2 hk
  have HR0:=hide (show RES=false by rw [HRES.out,e1];rfl)
  clear hk HRES
  go_enter Tryz.func30,Tryz.ntmps30
  go_wp2
  go_ret
  exact ⟨by rw [HR0.out];rfl,S0.out.bl⟩
 have e1:(k==k')=true:=beq_iff_eq.2 hk
 rw [e1,Bool.true_and] at HRES
 clear hk
 cases r2
 ·have HR0:=hide (show RES=false by rw [HRES.out];rfl)
  clear HRES
  go_enter Tryz.func30,Tryz.ntmps30
  go_wp2_with (first
   | (with_reducible refine zad rfl (zaM (.tmp 11) rfl w.heap.size 51 rfl F1.out) ?_)
   | (with_reducible refine zad rfl (zaM (.tmp 13) rfl (w.heap.size+1) 51 rfl F2.out) ?_)
   | (with_reducible refine zad rfl (ze6 (.tmp 12) (.tmp 14) rfl rfl rfl false H2.out) ?_))
  go_ret
  exact ⟨by rw [HR0.out];rfl,S0.out.bl⟩
 rw [Bool.true_and] at HRES
 obtain ⟨r3,h3⟩:∃ r,zhm x y=r:=⟨_,rfl⟩
 obtain ⟨r5,h5⟩:∃ r,zj4 p q=r:=⟨_,rfl⟩
 have H3:=hide h3
 have H5:=hide h5
 rw [h3,h5] at HRES
 clear h3 h5
 obtain ⟨_,o1,_,_,_⟩:=zdT HM.out S0.out.x
 obtain ⟨_,o2,_,_,_⟩:=zdT HM'.out S0.out.y
 have O1:=hide o1
 have O2:=hide o2
 have IX:=hide HX.out.ib
 have IY:=hide HY.out.ib
 clear o1 o2
 go_enter Tryz.func30,Tryz.ntmps30
 go_wp2_with (first
  | (with_reducible refine zad rfl (zaM (.tmp 11) rfl w.heap.size 51 rfl F1.out) ?_)
  | (with_reducible refine zad rfl (zaM (.tmp 13) rfl (w.heap.size+1) 51 rfl F2.out) ?_)
  | (with_reducible refine zad rfl (ze6 (.tmp 12) (.tmp 14) rfl rfl rfl true H2.out) ?_)
  | (with_reducible refine zad rfl (ze4 (.tmp 18) rfl w.heap.size 1 rfl O1.out IX.out) ?_)
  | (with_reducible refine zad rfl (ze4 (.tmp 20) rfl (w.heap.size+1) 1 rfl O2.out IY.out) ?_))
 refine (zl1 _ lo hi lo' hi' x y (HX.out.below (S0.out.bl.mono hh)) (HY.out.below (S0.out.bl.mono hh')) (Nat.le_trans hh S0.out.bl.size) (Nat.le_trans hh' S0.out.bl.size) hn).mono ?_
 rw [H3.out]
 rintro e z1 ⟨rfl,hb⟩
 have S1:=hide (S0.out.on hb)
 clear hb S0 F1 F2 O1 O2 c0 d0
 cases r3
 ·have HR0:=hide (show RES=false by rw [HRES.out];rfl)
  go_wp2
  go_ret
  exact ⟨by rw [HR0.out];rfl,S1.out.bl⟩
 rw [Bool.true_and] at HRES
 obtain ⟨_,_,u1,_,_⟩:=zdT HM.out S1.out.x
 obtain ⟨_,_,u2,_,_⟩:=zdT HM'.out S1.out.y
 have U1:=hide u1
 have U2:=hide u2
 clear u1 u2
 go_wp2_with (first
  | (with_reducible refine zad rfl (zcT (.tmp 25) rfl w.heap.size 22 rfl U1.out HM.out.u) ?_)
  | (with_reducible refine zad rfl (zcT (.tmp 27) rfl (w.heap.size+1) 22 rfl U2.out HM'.out.u) ?_))
 refine (HU.out z1 S1.out.bl).mono ?_
 rintro e z2 ⟨rfl,hb⟩
 have S2:=hide (S1.out.on hb)
 clear hb S1 U1 U2
 cases su
 ·have HR0:=hide (show RES=false by rw [HRES.out];rfl)
  go_wp2
  go_ret
  exact ⟨by rw [HR0.out];rfl,S2.out.bl⟩
 rw [Bool.true_and] at HRES
 obtain ⟨_,_,_,v1,_⟩:=zdT HM.out S2.out.x
 obtain ⟨_,_,_,v2,_⟩:=zdT HM'.out S2.out.y
 have V1:=hide v1
 have V2:=hide v2
 clear v1 v2
 go_wp2_with (first
  | (with_reducible refine zad rfl (zcj (.tmp 32) rfl w.heap.size 48 rfl V1.out) ?_)
  | (with_reducible refine zad rfl (zcj (.tmp 34) rfl (w.heap.size+1) 48 rfl V2.out) ?_))
 refine (zl2 _ lo hi lo' hi' p q (HP.out.below (S2.out.bl.mono hh)) (HQ.out.below (S2.out.bl.mono hh')) (Nat.le_trans hh S2.out.bl.size) (Nat.le_trans hh' S2.out.bl.size)).mono ?_
 rw [H5.out]
 rintro e z3 ⟨rfl,hb⟩
 have S3:=hide (S2.out.on hb)
 clear hb S2
 go_wp2
 go_ret
 exact ⟨by rw [HRES.out];rfl,S3.out.bl⟩
end
section
open Go.RowKit
theorem zqb {z z':World} {g i:Nat} {L:List Value} (h:z.rangeAt g i L) (hb:Below z.heap.size z z'):z'.rangeAt g i L:=fun j u hu=>by
 have h1:=h j u hu
 rw [hb.cell (World.block_lt_of_cell? _ _ h1)]
 exact h1
end
section
open Go.RowKit
theorem ztJ (k:Int):Tryz.prog.built 56 [(0,.int .i64 k)]=some (zMe k):=by kernel_rfl
theorem zfC {o:Oper} {a:Act} {w:World} (x:Operand) (ho:o.op = .build 56 #[(0,x)]) (k:Int) (hx:a.eval x = .int .i64 k):(execOp a.eval o).run Tryz.prog w = .ok (.value (.agg (zMe k))) w:=by
 unfold execOp
 simp only [ho,List.map_toArray,List.map_cons,List.map_nil,hx,Sem.run_bind,run_build w _ _ _ (ztJ k),Result.andThen_ok,Sem.run_pure]
set_option maxRecDepth 20000 in
set_option maxHeartbeats 1000000 in
theorem znv (w:World) (O U N F:List Value) (hm:MeOk O U N F) (rs:Bool)
  (hS:∀ z,Below w.heap.size w z→Calls Tryz.prog 30 #[.agg (meC 4 O U N F),.agg (zMe 4)] z fun e z'=>e = .returned (.bool rs)∧Below z.heap.size z z') :
  Calls Tryz.prog 14 #[.agg (meC 4 O U N F)] w fun e w'=>e = .returned (.bool rs)∧Below w.heap.size w w':=by
 have B0:=hide (Blk.new w 56 (meC 4 O U N F)).drew
 have W0:=hide (zam ((Below.refl w.heap.size w).alloc (Nat.le_refl _) (.cells (meC 4 O U N F) 56)))
 have HM:=hide hm
 have HS:=hide hS
 have K:∀ z,Blk z w.heap.size 56 (meC 4 O U N F)→z.cell? ⟨w.heap.size,0,none⟩=some (.int .i64 4)∧True∧True∧True∧True∧True:=fun z h=>⟨(zk3 HM.out h).1,trivial,trivial,trivial,trivial,trivial⟩
 clear hm hS
 go_enter Tryz.func14,Tryz.ntmps14
 go_wp2_with fail
 refine wp_region_held_drew (S:=fun z=>Blk z w.heap.size 56 (meC 4 O U N F)) (by kernel_rfl) B0.out (fun hHeld=>?_)
 refine rgV 0 (.agg (meC 4 O U N F)) (fun w' hSw=>zbN (.tmp 1) rfl w.heap.size rfl HM.out hSw) ?_
 repeat refine rgA K ?_
 have W1:=hide W0.out
 have hsz:(w.alloc (.cells (meC 4 O U N F) 56)).drew.heap.size=w.heap.size+1:=by simp
 generalize (w.alloc (.cells (meC 4 O U N F) 56)).drew=wd at *
 have v3:=Blk.new wd 56 (zMe 0)
 rw [hsz] at v3
 have V3:=hide v3
 clear v3
 refine rgM (fun hHeld=>?_)
 have hz:(meC 4 O U N F).size=53:=zfs HM.out
 have G3:=hide (zai (meC 4 O U N F).toList 0 _ _ (zac (wd.alloc (.cells (zMe 0) 56)) (some (w.heap.size+1))))
 have hSt:Blk ((wd.alloc (.cells (zMe 0) 56)).setCells (w.heap.size+1) 0 (meC 4 O U N F).toList) w.heap.size 56 (meC 4 O U N F):=hHeld.grown G3.out (by intro e;injection e;omega)
 refine zau (i:=5) rfl (by kernel_rfl) (by rfl) (zb6 56 (.tmp 3) (.tmp 5) rfl (w.heap.size+1) rfl (meC 4 O U N F) rfl (by rw [hz];show _=some 53;kernel_rfl) (ziZ HM.out) V3.out (by rw [hz];rfl)) hSt (fun hHeld=>?_)
 have V4:=hide (zgA V3.out (show (zMe 0).size=(meC 4 O U N F).size by rw [hz];rfl))
 have W2:=hide ((W1.out.alloc (by omega) (.cells (zMe 0) 56)).grown G3.out (by simp;omega) (fun q hq=>by injection hq with hq;omega))
 have S2:=hide hHeld
 clear V3 W1 W0 hSt G3 B0
 generalize ((wd.alloc (.cells (zMe 0) 56)).setCells (w.heap.size+1) 0 (meC 4 O U N F).toList)=w3 at *
 refine rgN ?_
 repeat refine rgA (F:=fun _=>True) (fun _ _=>trivial) ?_
 refine wpAnyH_done (by kernel_rfl) ?_ _
 have k0:=(K w3 S2.out).1
 have hHZ:=hide hz
 clear hz hHeld K
 go_wp2_with (first
  | (with_reducible refine zad rfl (zbN (.tmp 3) rfl (w.heap.size+1) rfl HM.out V4.out) ?_)
  | (with_reducible refine zad rfl (zfC (.tmp 43) rfl 4 rfl) ?_))
 refine (HS.out w3 W2.out).mono ?_
 rintro e w4 ⟨rfl,hb⟩
 have W4:=hide (W2.out.trans (hb.mono W2.out.size))
 clear hb
 go_wp2
 go_ret
 exact ⟨rfl,W4.out⟩
end
section
open Go.RowKit
theorem zg0 {w:World} {g o:Nat} {t:TypeId} {m m':Mr} {p q r vs:List Value} (h:Blk w g t (mroC m)) (h1:mroL m=p++(q++r)) (h2:mroL m'=p++(vs++r)) (hp:p.length=o) (hq:q.length=vs.length) :
  Blk (w.setCells g o vs) g t (mroC m'):=by
 subst hp
 unfold mroC at h ⊢
 rw [h1] at h
 rw [h2]
 exact zbD vs q p w hq h
theorem zsV {w:World} {g:Nat} {t:TypeId} {m:Mr} (h:Blk w g t (mroC m)) (hm:m.W) (x:Int):Blk (w.setCell ⟨g,9,none⟩ (.int .i64 x)) g t (mroC { m with a:=x }) :=
 zg0 (p:=[.int .i64 m.k]++bvs m.rd) (q:=[.int .i64 m.a]) (vs:=[.int .i64 x]) h (by simp only [mroL,List.append_assoc];rfl) (by simp only [mroL,List.append_assoc]) (by simp [bvs,hm.rd]) rfl
theorem zsR {w:World} {g:Nat} {t:TypeId} {m:Mr} (h:Blk w g t (mroC m)) (hm:m.W) (s:Int) {bs:List UInt8} (hl:bs.length=16):Blk (w.setCells g 10 (.int .i64 s::bvs bs)) g t (mroC { m with ss:=s,sb:=bs }) :=
 zg0 (p:=[.int .i64 m.k]++(bvs m.rd++[.int .i64 m.a])) (q:=.int .i64 m.ss::bvs m.sb) h (by simp only [mroL,List.append_assoc];rfl) (by simp only [mroL,List.append_assoc]) (by simp [bvs,hm.rd]) (by simp [bvs,hm.sb,hl])
theorem zsT {w:World} {g:Nat} {t:TypeId} {m:Mr} (h:Blk w g t (mroC m)) (hm:m.W) (s:Int) {bs:List UInt8} (hl:bs.length=16):Blk (w.setCells g 27 (.int .i64 s::bvs bs)) g t (mroC { m with gs:=s,gb:=bs }) :=
 zg0 (p:=[.int .i64 m.k]++(bvs m.rd++([.int .i64 m.a]++(.int .i64 m.ss::bvs m.sb)))) (q:=.int .i64 m.gs::bvs m.gb) h (by simp only [mroL,List.append_assoc];rfl) (by simp only [mroL,List.append_assoc]) (by simp [bvs,hm.rd,hm.sb]) (by simp [bvs,hm.gb,hl])
theorem zsU {w:World} {g:Nat} {t:TypeId} {m:Mr} (h:Blk w g t (mroC m)) (hm:m.W) (s:Int) {bs:List UInt8} (hl:bs.length=16):Blk (w.setCells g 44 (.int .i64 s::bvs bs)) g t (mroC { m with fs:=s,fb:=bs }) :=
 zg0 (p:=[.int .i64 m.k]++(bvs m.rd++([.int .i64 m.a]++((.int .i64 m.ss::bvs m.sb)++(.int .i64 m.gs::bvs m.gb))))) (q:=.int .i64 m.fs::bvs m.fb) h (by simp only [mroL,List.append_assoc];rfl) (by simp only [mroL,List.append_assoc]) (by simp [bvs,hm.rd,hm.sb,hm.gb]) (by simp [bvs,hm.fb,hl])
theorem zsS {w:World} {g:Nat} {t:TypeId} {m:Mr} (h:Blk w g t (mroC m)) (hm:m.W) (x:List UInt8):Blk (w.setCell ⟨g,61,none⟩ (.string ⟨x.toArray⟩)) g t (mroC { m with key:=x }) :=
 zg0 (p:=[.int .i64 m.k]++(bvs m.rd++([.int .i64 m.a]++((.int .i64 m.ss::bvs m.sb)++((.int .i64 m.gs::bvs m.gb)++(.int .i64 m.fs::bvs m.fb)))))) (q:=[.string ⟨m.key.toArray⟩]) (r:=[]) (vs:=[.string ⟨x.toArray⟩]) h (by simp only [mroL,List.append_assoc,List.append_nil]) (by simp only [mroL,List.append_assoc,List.append_nil]) (by simp [bvs,hm.rd,hm.sb,hm.gb,hm.fb]) rfl
theorem zgm {w:World} {g:Nat} {t:TypeId} {m:Mr} (h:Blk w g t (mroC m)) (hm:m.W) {o n:Nat} (ho:o+n≤62):w.there g o n:=fun j hj=>by
 refine ⟨?_,h.frozen _⟩
 rw [h.cell]
 have:=zbe hm
 simp [this]
 omega
theorem zmV {o:Oper} {a:Act} {w:World} (d s:Operand) (ho:o.op = .call { callee:=.builtin .copy,args:=#[d,s],argTypes:=#[22,22] })
  {g n c lo hi:Nat} {A:Option Addr} {bs:List UInt8} {t:TypeId} {m:Mr} (hd:a.eval d = .slice (some ⟨g,1,none⟩) 8 8) (hs:a.eval s = .slice A n c) (h:Blk w g t (mroC m)) (hm:m.W) (hz:m.rd=zda) (hr:At w lo hi A n bs) :
  ∃ v w',(execOp a.eval o).run Tryz.prog w = .ok (.value v) w'∧Blk w' g t (mroC { m with rd:=pad8 bs })∧w.grownBy w' (some g):=by
 have hl:=hr.len
 have hsz:(Tryz.prog.info? 5).map (·.size)=some 1:=by kernel_rfl
 have fin:∀ {v:Value} {w':World},(Builtin.copy_ #[22,22] o.type #[.slice (some ⟨g,1,none⟩) 8 8,.slice A n c]).run Tryz.prog w = .ok v w'→(execOp a.eval o).run Tryz.prog w = .ok (.value v) w':=fun hrun=>by
  unfold execOp
  simp only [ho,resolve,invoke,builtin,Sem.run_bind,Sem.run_pure,Result.andThen_ok,List.map_toArray,List.map_cons,List.map_nil,hd,hs,hrun]
 rcases Nat.eq_zero_or_pos n with h0 | h0
 ·subst h0
  have:bs=[]:=List.eq_nil_of_length_eq_zero hl
  subst this
  refine ⟨_,_,fin (run_copy_none (P:=Tryz.prog) w _ _ _ 5 _ A 8 8 0 c Tryz.underlying22 hsz (by simp)),?_,zac w _⟩
  have e:pad8 []=m.rd:=by rw [hz];rfl
  rw [e]
  exact h
 ·obtain ⟨ad,rfl,hc⟩:=hr.cells h0
  have ht:((bvs bs).take 8).length=Nat.min n 8:=by rw [List.length_take,za1,hl,Nat.min_comm]
  have ht8:((bvs bs).take 8).length≤8:=by rw [List.length_take];omega
  have hth:=zgm h hm (o:=1) (n:=8) (by omega)
  refine ⟨_,_,fin (run_copy_cells (P:=Tryz.prog) w _ _ _ 5 g 1 8 8 ad n c ((bvs bs).take 8) Tryz.underlying22 hsz ht (fun j v hv=>hc j v (by
    rw [List.getElem?_take] at hv
    split at hv
    ·exact hv
    ·cases hv))
   (fun j hj=>(hth j (by omega)).1) (fun j hj=>(hth j (by omega)).2) (fun v hv=>zbI bs v (List.mem_of_mem_take hv))),?_,zai _ _ _ _ (zac w _)⟩
  refine zg0 (p:=[.int .i64 m.k]) (q:=(bvs zda).take (min n 8)) (r:=(bvs zda).drop (min n 8)++([.int .i64 m.a]++((.int .i64 m.ss::bvs m.sb)++((.int .i64 m.gs::bvs m.gb)++((.int .i64 m.fs::bvs m.fb)++[.string ⟨m.key.toArray⟩]))))) h ?_ ?_ rfl ?_
  ·unfold mroL
   rw [hz,← List.append_assoc ((bvs zda).take _),List.take_append_drop]
  ·unfold mroL
   simp only
   rw [← ziP bs,hl,List.append_assoc]
  ·rw [ht,List.length_take,za1]
   simp [zda]
end
section
set_option maxRecDepth 20000
open Go.RowKit
theorem zxC (w:World) (x:UInt8) (V:Int) (hV:V=(x.toNat:Int)) :
  (w.alloc (.cells #[.int .u8 V] 5)).ownsRow w.heap.size 5 1 (.slice (some ⟨w.heap.size,0,none⟩) 1 1) 1 (bvs [x]):=by
 subst hV
 exact zco (Blk.new w _ _) (Nat.le_refl _) (Nat.le_refl _) (by decide) rfl rfl
theorem zxB (w:World) (x y:UInt8) (V U:Int) (hV:V=(x.toNat:Int)) (hU:U=(y.toNat:Int)) :
  (w.alloc (.cells #[.int .u8 V,.int .u8 U] 5)).ownsRow w.heap.size 5 1 (.slice (some ⟨w.heap.size,0,none⟩) 2 2) 2 (bvs [x,y]):=by
 subst hV hU
 exact zco (Blk.new w _ _) (Nat.le_refl _) (Nat.le_refl _) (by decide) rfl rfl
set_option maxHeartbeats 1000000 in
theorem zhg (w:World) (s:Int) (bs:List UInt8) (hl:bs.length=16) :
  Calls Tryz.prog 221 #[.agg (zas s bs)] w fun e w'=>∃ v,e = .returned v∧w'.ownsRow w.heap.size 5 1 v (zhM s bs).length (bvs (zhM s bs))∧Below w.heap.size w w':=by
 have HB:=hide (Blk.new w 40 (zas s bs))
 have HL:=hide hl
 have hn:=zcU s hl
 have W0:=hide ((Below.refl w.heap.size w).alloc (Nat.le_refl _) (.cells (zas s bs) 40))
 obtain ⟨i0,hi0,hz0,hz1,hz2⟩:=info_parts zbQ
 have HV:Hid ((8*((zaw s bs).length:Int))=((UInt8.ofNat (8*(zaw s bs).length)).toNat:Int)):=hide (by rw [zbj (by omega)];omega)
 have HP:Hid (zhM s bs=[UInt8.ofNat (8*(zaw s bs).length)]++zaw s bs):=hide rfl
 have HPL:Hid ((zhM s bs).length=1+(zaw s bs).length):=hide (by unfold zhM;simp;omega)
 clear hl
 go_enter Tryz.func221,Tryz.ntmps221
 go_wp2_with (with_reducible refine zaI rfl (.tmp 1) rfl w.heap.size rfl HB.out HL.out ?_)
 refine (zdg _ s bs HL.out).mono ?_
 rintro e w1 ⟨v,rfl,ho,hb⟩
 obtain ⟨A,c,rfl,_,_⟩:=zag ho
 have HA:=hide (At.own ho)
 have W1:=hide (zaa W0.out hb (Nat.le_refl _))
 have hsz:w.heap.size≤w1.heap.size:=W1.out.size
 clear ho hb
 go_wp2_with (at_builtin;refine zap _ rfl _ _ 22 rfl w1.heap.size 5 i0 Tryz.underlying22 hi0 hz0 hz1 hz2 (.slice (some ⟨w1.heap.size,0,none⟩) 1 1) 1 [UInt8.ofNat (8*(zaw s bs).length)] rfl (zxC w1 _ _ HV.out) _ w1.heap.size A _ c _ rfl (HA.out.alloc (Nat.le_refl _) _) (by omega) (by simp) ?_;intro v2 w2 ho2 hg2 ha2;have HO2:=hide ho2;have HG2:=hide hg2;clear ho2 hg2)
 go_ret
 refine ⟨_,rfl,?_,?_⟩
 ·rw [HPL.out,HP.out]
  exact zaA HO2.out hsz
 ·exact zm3 W1.out (Nat.le_refl _) _ HG2.out (Nat.le_refl _)
def zff (w:World) (g:Nat) (m:Mr):Prop:=Blk w g 229 (mroC m)∧m.W
theorem zff.over {w x:World} {g:Nat} {m:Mr} (h:zff w g m) {B:Nat} (hb:Below B w x) (hB:g<B):zff x g m:=⟨h.1.below hb hB,h.2⟩
theorem At.rdM {w:World} {g:Nat} {m:Mr} (h:zff w g m):At w 0 (g+1) (some ⟨g,1,none⟩) 8 m.rd:=by
 have hr:=mro_rd h.2 h.1
 refine ⟨h.2.rd,fun _=>⟨g,1,rfl,Nat.zero_le _,by omega,fun j u hu=>?_⟩⟩
 exact hr j (bv u) (by unfold bvs;rw [List.getElem?_map,hu];rfl)
def WrOk (w:World) (m:Mr) (j:Nat) (e:Ending) (w':World):Prop :=
 ∃ A n c,e = .returned (.slice A n c)∧n≤c∧At w' 0 w'.heap.size A n (wrP m j)∧Below w.heap.size w w'
theorem zwI (w:World) (g:Nat) (m:Mr) (h:zff w g m):Calls Tryz.prog 218 #[.pointer (some ⟨g,0,none⟩)] w (WrOk w m 0):=by
 have HA:=hide (At.rdM h)
 have hl:g+1≤w.heap.size:=h.1.lt
 clear h
 go_enter Tryz.func218,Tryz.ntmps218
 go_wp2
 go_ret
 exact ⟨_,_,_,rfl,Nat.le_refl _,HA.out.more (Nat.le_refl _) hl,Below.refl _ _⟩
theorem zwH (w:World) (g:Nat) (m:Mr) (h:zff w g m):Calls Tryz.prog 219 #[.pointer (some ⟨g,0,none⟩)] w (WrOk w m 1):=by
 have c9:=(h.1.cell 9).trans (zwo h.2)
 clear h
 go_enter Tryz.func219,Tryz.ntmps219
 go_wp2_with fail
 refine (znF w 0 0 none 0 0 [] (At.nil _ _ _ _) (Nat.zero_le _) (by omega) m.a 4).mono ?_
 rintro e w1 ⟨v,rfl,ho,hb⟩
 obtain ⟨A,c,rfl,hc,_⟩:=zag ho
 have HO:=hide ho
 have HB:=hide hb
 clear ho hb
 go_wp2
 go_ret
 exact ⟨_,_,_,rfl,hc,by rw [← (At.own HO.out).len];exact (At.own HO.out).more (Nat.zero_le _) (Nat.le_refl _),HB.out⟩
theorem zwG (w:World) (g:Nat) (m:Mr) (h:zff w g m):Calls Tryz.prog 220 #[.pointer (some ⟨g,0,none⟩)] w (WrOk w m 2):=by
 have HS:=hide (zxQ h.2 h.1)
 have HL:=hide h.2.sb
 clear h
 go_enter Tryz.func220,Tryz.ntmps220
 go_wp2_with (with_reducible refine zaN rfl (.tmp 2) rfl g 10 rfl HS.out HL.out ?_)
 refine (zhg w m.ss m.sb HL.out).mono ?_
 rintro e w1 ⟨v,rfl,ho,hb⟩
 obtain ⟨A,c,rfl,hc,_⟩:=zag ho
 have HO:=hide ho
 have HB:=hide hb
 clear ho hb
 go_wp2
 go_ret
 exact ⟨_,_,_,rfl,hc,(At.own HO.out).more (Nat.zero_le _) (Nat.le_refl _),HB.out⟩
theorem zwF (w:World) (g:Nat) (m:Mr) (h:zff w g m):Calls Tryz.prog 222 #[.pointer (some ⟨g,0,none⟩)] w (WrOk w m 3):=by
 have HS:=hide (zxR h.2 h.1)
 have HL:=hide h.2.gb
 clear h
 go_enter Tryz.func222,Tryz.ntmps222
 go_wp2_with (with_reducible refine zaN rfl (.tmp 2) rfl g 27 rfl HS.out HL.out ?_)
 refine (zhg w m.gs m.gb HL.out).mono ?_
 rintro e w1 ⟨v,rfl,ho,hb⟩
 obtain ⟨A,c,rfl,hc,_⟩:=zag ho
 have HO:=hide ho
 have HB:=hide hb
 clear ho hb
 go_wp2
 go_ret
 exact ⟨_,_,_,rfl,hc,(At.own HO.out).more (Nat.zero_le _) (Nat.le_refl _),HB.out⟩
theorem zwD (w:World) (g:Nat) (m:Mr) (h:zff w g m):Calls Tryz.prog 224 #[.pointer (some ⟨g,0,none⟩)] w (WrOk w m 5):=by
 have HS:=hide (mro_f h.2 h.1)
 have HL:=hide h.2.fb
 clear h
 go_enter Tryz.func224,Tryz.ntmps224
 go_wp2_with (with_reducible refine zaN rfl (.tmp 2) rfl g 44 rfl HS.out HL.out ?_)
 refine (zdg w m.fs m.fb HL.out).mono ?_
 rintro e w1 ⟨v,rfl,ho,hb⟩
 obtain ⟨A,c,rfl,hc,_⟩:=zag ho
 have HO:=hide ho
 have HB:=hide hb
 clear ho hb
 go_wp2
 go_ret
 exact ⟨_,_,_,rfl,hc,(At.own HO.out).more (Nat.zero_le _) (Nat.le_refl _),HB.out⟩
theorem zkH (w:World) (s:List UInt8):∃ c w',(convert 9 22 (.string ⟨s.toArray⟩)).run Tryz.prog w = .ok (.slice (some ⟨w.heap.size,0,none⟩) s.length c) w'∧s.length≤c ∧
  At w' w.heap.size w'.heap.size (some ⟨w.heap.size,0,none⟩) s.length s∧Below w.heap.size w w'∧w'.heap.size=w.heap.size+1:=by
 have hr:=run_bytes_of_string (P:=Tryz.prog) w 9 22 5 ⟨s.toArray⟩ Tryz.underlying9 Tryz.underlying22 Tryz.underlying5
 have hz:ByteArray.size ⟨s.toArray⟩=s.length:=by simp [ByteArray.size]
 rw [hz] at hr
 refine ⟨_,_,hr,grownCap_ge _ _ _ _,?_,((zam (Below.refl w.heap.size w))).alloc (by simp) _,by simp⟩
 refine ⟨rfl,fun _=>⟨_,0,rfl,Nat.le_refl _,by simp,fun j u hu=>?_⟩⟩
 have hh:(w.drew.alloc (.cells (bytesRow ⟨s.toArray⟩ (grownCap w s.length 0 5)) 5 ((bytesRow ⟨s.toArray⟩ (grownCap w s.length 0 5)).size,(bytesRow ⟨s.toArray⟩ (grownCap w s.length 0 5)).size+1))).heap[w.heap.size]?=some (.cells (bytesRow ⟨s.toArray⟩ (grownCap w s.length 0 5)) 5 ((bytesRow ⟨s.toArray⟩ (grownCap w s.length 0 5)).size,(bytesRow ⟨s.toArray⟩ (grownCap w s.length 0 5)).size+1)):=heap_alloc_new w.drew _
 rw [cell_of_row _ _ _ _ _ _ hh]
 have hj:j<s.length:=(List.getElem?_eq_some_iff.1 hu).1
 unfold bytesRow
 rw [Nat.zero_add,Array.getElem?_append_left (by simpa using hj)]
 simp [hu,bv]
theorem zez {ops:Array Oper} {rest:List Oper} {o:Oper} {a:Act} {w:World} {Q:Exit→Act→World→Prop} (hgd:o.guard=none) (x:Operand) (ho:o.op = .convert 9 22 x)
  (s:List UInt8) (hx:a.eval x = .string ⟨s.toArray⟩)
  (hk:∀ c w',s.length≤c→At w' w.heap.size w'.heap.size (some ⟨w.heap.size,0,none⟩) s.length s→Below w.heap.size w w'→wpList Tryz.prog ops Q rest (a.put o.dst (.slice (some ⟨w.heap.size,0,none⟩) s.length c)) w'):wpList Tryz.prog ops Q (o::rest) a w:=by
 obtain ⟨c,w',hr,hc,ha,hb,_⟩:=zkH w s
 refine wpList_plain hgd fun K hK=>?_
 unfold Oper.wp execOp
 simp only [ho,hx,Sem.run_bind,hr,Result.andThen_ok,Sem.run_pure]
 exact hK _ _ (hk c w' hc ha hb)
theorem zwE (w:World) (g:Nat) (m:Mr) (h:zff w g m):Calls Tryz.prog 223 #[.pointer (some ⟨g,0,none⟩)] w (WrOk w m 4):=by
 have c61:=(h.1.cell 61).trans (zk1 h.2)
 clear h
 go_enter Tryz.func223,Tryz.ntmps223
 go_wp2_with (with_reducible refine zez rfl (.tmp 3) rfl m.key rfl ?_;intro c w1 hc ha hb;have HA:=hide ha;have HB:=hide hb;clear ha hb)
 go_ret
 exact ⟨_,_,_,rfl,hc,HA.out.more (Nat.zero_le _) (Nat.le_refl _),HB.out⟩
def wfC (g:Nat):Array Value:=#[.func (.func 218) #[] #[.pointer (some ⟨g,0,none⟩)],.func (.func 219) #[] #[.pointer (some ⟨g,0,none⟩)],
 .func (.func 220) #[] #[.pointer (some ⟨g,0,none⟩)],.func (.func 222) #[] #[.pointer (some ⟨g,0,none⟩)],
 .func (.func 223) #[] #[.pointer (some ⟨g,0,none⟩)],.func (.func 224) #[] #[.pointer (some ⟨g,0,none⟩)]]
theorem zxi {fn:Func} {R:Ending→World→Prop} {a:Act} {w:World} {p:Tmp} {g g':Nat} {t:TypeId} (hf:fn.results=#[.cell p 287])
  (hp:a.tmps.getD p undef = .pointer (some ⟨g,0,none⟩)) (h:Blk w g t (wfC g')) (hd:a.defers=[]) (hR:R (.returned (.agg (wfC g'))) w) :
  bodyPost Tryz.prog fn R .ret a w:=by
 refine bodyPost_ret (v:=.agg (wfC g')) ?_ hd hR
 have hp':a.tmps[p]?.getD undef = .pointer (some ⟨g,0,none⟩):=by simpa using hp
 have hl:=run_loadVar_row (P:=Tryz.prog) w g t 287 (wfC g') (0,0) _ h Tryz.underlying287 rfl (by rw [show (wfC g').size=6 from rfl];kernel_rfl)
 simp [results,hf,hp',asAddr,hl]
theorem wf_one (k:Nat):(wfC k).all (·.oneCell')=true:=by simp [wfC,Value.oneCell']
theorem zeK {ops:Array Oper} {rest:List Oper} {o:Oper} {a:Act} {w:World} {Q:Exit→Act→World→Prop} (hgd:o.guard=none) (x y:Operand) (ho:o.op = .store 287 x y)
  (g:Nat) (hx:a.eval x = .pointer (some ⟨g,0,none⟩)) {k:Nat} (hy:a.eval y = .agg (wfC k)) {t:TypeId} {old:Array Value} (h:Blk w g t old) (hold:old.size=6)
  (hk:∀ w',Blk w' g t (wfC k)→w.grownBy w' (some g)→wpList Tryz.prog ops Q rest (a.put o.dst undef) w'):wpList Tryz.prog ops Q (o::rest) a w :=
 wpList_store_row hgd 287 x y ho g (wfC k) hx hy t old h (by rw [show (wfC k).size=6 from rfl];kernel_rfl) (by rw [show (wfC k).size=6 from rfl,hold]) (wf_one k) (hk _ (h.setRow _) (zav _ _ _))
theorem zkt (w:World) (m:Mr) (hm:m.W):Calls Tryz.prog 208 #[.agg (mroC m)] w fun e w'=>∃ g,e = .returned (.agg (wfC g))∧zff w' g m∧Below w.heap.size w w':=by
 have HM:=hide hm
 have HB:=hide ((Blk.new w 229 (mroC m)).alloc (.cells #[.nilFunc,.nilFunc,.nilFunc,.nilFunc,.nilFunc,.nilFunc] 287))
 have HN:=hide (zc8 w (.cells (mroC m) 229) 287 #[.nilFunc,.nilFunc,.nilFunc,.nilFunc,.nilFunc,.nilFunc])
 have W0:=hide (((Below.refl w.heap.size w).alloc (Nat.le_refl _) (.cells (mroC m) 229)).alloc (by simp) (.cells #[.nilFunc,.nilFunc,.nilFunc,.nilFunc,.nilFunc,.nilFunc] 287))
 clear hm
 go_enter Tryz.func208,Tryz.ntmps208
 go_wp2_with (refine zeK rfl (.tmp 2) (.tmp 9) rfl (w.heap.size+1) rfl (k:=w.heap.size) rfl HN.out rfl ?_;intro w2 hb2 hg2;have HB2:=hide hb2;have HG2:=hide hg2;clear hb2 hg2;refine Hid.out ?_)
 refine hide ?_
 go_wp2
 refine zxi (p:=2) (g:=w.heap.size+1) (t:=287) (g':=w.heap.size) rfl rfl HB2.out rfl ⟨_,rfl,⟨HB.out.grown HG2.out (by simp),HM.out⟩,?_⟩
 exact W0.out.grown HG2.out (by simp;omega) (by simp)
theorem zri {m:Mr} {j:Nat} (h:(za5 m.k).getD j false=false):wrK m (j+1)=wrK m j:=by rw [wrK,h];simp
theorem zrh {m:Mr} {j:Nat} (h:(za5 m.k).getD j false=true):wrK m (j+1)=wrK m j++wrP m j:=by rw [wrK,h];simp
theorem zot {m:Mr} (w:m.W) {j:Nat} (h:j<6):(wrP m j).length≤17+(if j=4 then m.key.length else 0):=by
 have h1:=zcU m.ss w.sb
 have h2:=zcU m.gs w.gb
 have h3:=zcU m.fs w.fb
 have h4:=w.rd
 have h5:(zeH [] m.a 4).length≤4:=by
  unfold zeH
  split
  ·simp [zcl]
  ·simp
 rcases (show j=0∨j=1∨j=2∨j=3∨j=4∨j=5 by omega) with rfl | rfl | rfl | rfl | rfl | rfl <;> simp [wrP,zhM,List.length_cons] <;> omega
theorem zku {m:Mr} (w:m.W):∀ j,j≤6→(wrK m j).length≤j*17+(if 4<j then m.key.length else 0)
 | 0,_=>by simp [wrK]
 | j+1,h=>by
  have ih:=zku w j (by omega)
  have hp:=zot w (j:=j) (by omega)
  cases e:(za5 m.k).getD j false
  ·rw [zri e]
   split at ih <;> split <;> omega
  ·rw [zrh e,List.length_append]
   split at ih <;> split at hp <;> split <;> omega
theorem zrj {m:Mr} (w:m.W) (j:Nat) (h:j≤6):(wrK m j).length≤102+m.key.length:=by
 have h1:=zku w j h
 split at h1 <;> omega
theorem zwC {m:Mr} (w:m.W) {j:Nat} (h:j<6):(wrK m j).length+(wrP m j).length≤120+m.key.length:=by
 have h1:=zku w j (by omega)
 have h2:=zot w h
 split at h1 <;> split at h2 <;> omega
theorem zv7 (n:Nat):IntKind.u8.wrap (n:Int)=((UInt8.ofNat n).toNat:Int):=by
 simp [IntKind.wrap,IntKind.bits,IntKind.signed]
theorem zho (w:World) (k:Int) {j:Nat} (hj:j<6):(Instr.index 289 (.agg (nmC k)) (.int .i64 (j:Int))).run Tryz.prog w = .ok (.bool ((za5 k).getD j false)) w:=by
 rcases (show j=0∨j=1∨j=2∨j=3∨j=4∨j=5 by omega) with rfl | rfl | rfl | rfl | rfl | rfl <;> kernel_rfl
theorem zaU {ops:Array Oper} {rest:List Oper} {o:Oper} {a:Act} {w:World} {Q:Exit→Act→World→Prop} (hw:Region.wanted o (yielded ops a.tmps)=true) (x y:Operand) (ho:o.op = .index 289 x y)
  (k:Int) (j:Nat) (hj:j<6) (hx:a.eval x = .agg (nmC k)) (hy:a.eval y = .int .i64 (j:Int)) (b:Bool) (hb:(za5 k).getD j false=b)
  (hk:wpList Tryz.prog ops Q rest (a.put o.dst (.bool b)) w):wpList Tryz.prog ops Q (o::rest) a w:=by
 subst hb
 unfold wpList
 rw [if_pos hw]
 refine .inl ?_
 unfold Oper.wp execOp
 simp only [ho,hx,hy,Sem.run_bind,zho w k hj,Result.andThen_ok,Sem.run_pure]
 exact hk
theorem zeC {ops:Array Oper} {rest:List Oper} {o:Oper} {a:Act} {w:World} {Q:Exit→Act→World→Prop} {k:Int} {j:Nat} {b:Bool} (hb:(za5 k).getD j false=b) (hw:Region.wanted o (yielded ops a.tmps)=true) (x y:Operand) (ho:o.op = .index 289 x y)
  (hj:j<6) (hx:a.eval x = .agg (nmC k)) (hy:a.eval y = .int .i64 (j:Int)) (hk:wpList Tryz.prog ops Q rest (a.put o.dst (.bool b)) w):wpList Tryz.prog ops Q (o::rest) a w:=zaU hw x y ho k j hj hx hy b hb hk
set_option maxHeartbeats 4000000 in
theorem zh6 (w:World) (m:Mr) (hm:m.W) (hkn:kwn m.k=true) (hkey:m.key.length≤140737488351232) (hn:za0 w) :
  Calls Tryz.prog 189 #[.agg (mroC m)] w fun e w'=>∃ v,e = .returned v∧w'.ownsRow w.heap.size 5 1 v (zcJ m).length (bvs (zcJ m))∧Below w.heap.size w w':=by
 obtain ⟨i0,hi0,hz0,hz1,hz2⟩:=info_parts zbQ
 have HM:=hide hm
 have HK:=hide hkn
 have HKey:=hide hkey
 have HB:=hide (Blk.new w 229 (mroC m))
 have W0:=hide ((Below.refl w.heap.size w).alloc (Nat.le_refl _) (.cells (mroC m) 229))
 have HN:=hide (hn.below W0.out)
 clear hm hkn hkey hn
 go_enter Tryz.func189,Tryz.ntmps189
 go_wp2_with (with_reducible refine zay rfl (.tmp 1) rfl w.heap.size rfl HB.out HM.out ?_)
 refine (zkt _ m HM.out).mono ?_
 rintro e w1 ⟨gc,rfl,hc1,hb1⟩
 have C1:=hide hc1
 have B1:=hide (HB.out.over hb1)
 have N1:=hide (HN.out.below hb1)
 have W1:=hide (zaa W0.out hb1 (Nat.le_refl _))
 have NB:=hide (Blk.new w1 287 #[.nilFunc,.nilFunc,.nilFunc,.nilFunc,.nilFunc,.nilFunc])
 clear hc1 hb1
 go_wp2_with (refine zeK rfl (.tmp 4) (.tmp 8) rfl w1.heap.size rfl (k:=gc) rfl NB.out rfl ?_;intro w2 hb2 hg2;have HB2:=hide hb2;have W2:Hid (Below w1.heap.size w1 w2):=hide (((Below.refl _ _).alloc (Nat.le_refl _) _).grown hg2 (by simp) (by simp));clear hb2 hg2;refine Hid.out ?_)
 refine hide ?_
 have B2:=hide (B1.out.over W2.out)
 have C2:=hide (C1.out.over W2.out C1.out.1.lt)
 have N2:=hide (N1.out.below W2.out)
 have k0:=(B2.out.cell 0).trans zeW
 have hs1:=W1.out.size
 have hs2:=W2.out.size
 have hb1lt:=B1.out.lt
 have hc1lt:=C1.out.1.lt
 have W2':=hide (zaa W1.out W2.out (Nat.le_refl _))
 go_wp2_with fail
 refine (zb0 w2 m.k N2.out).mono ?_
 rintro e w3 ⟨rfl,hb3⟩
 have B3:=hide (B2.out.over hb3)
 have C3:=hide (C2.out.over hb3 C2.out.1.lt)
 have F3:=hide (HB2.out.over hb3)
 have W3:=hide (zaa W2'.out hb3 (Nat.le_refl _))
 have hs3:=hb3.size
 have hf2lt:=HB2.out.lt
 clear hb3 k0
 go_wp2_with fail
 go_loopw [3,12] (fun v i wr=>∃ (j c3:Nat) (B:Option Addr),j≤6∧v = .slice B (wrK m j).length c3∧i = .int .i64 j∧wr.ownsRow w3.heap.size 5 1 (.slice B (wrK m j).length c3) (wrK m j).length (bvs (wrK m j))∧Below w3.heap.size w3 wr) (fun _ i _=>6-(intOf i).toNat)
 case atStart=>exact ⟨0,0,none,by omega,rfl,rfl,World.ownsRow_nil _ _ _ _,Below.refl _ _⟩
 case round =>
  obtain ⟨j,c3,B,hj,rfl,rfl,hown,hbel⟩:=hrel
  have HO:=hide hown
  have WB:=hide hbel
  have Br:=hide (B3.out.over hbel)
  have Cr:=hide (C3.out.over hbel C3.out.1.lt)
  have Fr:=hide (F3.out.over hbel)
  have hsr:=hbel.size
  have HL:=hide (zrj HM.out j hj)
  clear hown hbel
  by_cases h6:j=6
  ·subst h6
   have k0:=(Br.out.cell 0).trans zeW
   have HWV:Hid (((wrK m 6).length:Int)%256=((UInt8.ofNat (wrK m 6).length).toNat:Int)):=hide (by simp)
   obtain ⟨K,hK⟩:∃ K:Nat,m.k=(K:Int):=⟨m.k.toNat,by have:=of_decide_eq_true HK.out;omega⟩
   have hK7:1≤K∧K≤7:=by have:=of_decide_eq_true HK.out;omega
   rw [hK] at k0
   have HKV:Hid (((K:Nat):Int)=((UInt8.ofNat m.k.toNat).toNat:Int)):=hide (by rw [hK,Int.toNat_natCast,zbj (by omega)])
   have HK2:=hide hK
   clear hK
   have HWL:Hid ((zcJ m).length=2+(wrK m 6).length):=hide (by unfold zcJ zjT;simp;omega)
   have HWE:Hid (zcJ m=[UInt8.ofNat m.k.toNat,UInt8.ofNat (wrK m 6).length]++wrK m 6):=hide rfl
   go_wp2_with (at_builtin;go_must (refine zap _ rfl (.tmp 30) (.tmp 31) 22 rfl wr.heap.size 5 i0 Tryz.underlying22 hi0 hz0 hz1 hz2 (.slice (some ⟨wr.heap.size,0,none⟩) 2 2) 2 [UInt8.ofNat m.k.toNat,UInt8.ofNat (wrK m 6).length] rfl (zxB wr _ _ _ _ HKV.out HWV.out) _ _ B (wrK m 6).length c3 (wrK m 6) rfl ((At.own HO.out).alloc (Nat.le_refl _) _) (by have h1:=HL.out;have h4:=HKey.out;omega) (by simp) ?_);intro v5 w5 ho5 hg5 _;have HO5:=hide ho5;have HG5:=hide hg5;clear ho5 hg5)
   go_ret
   refine ⟨_,rfl,?_,?_⟩
   ·rw [HWL.out,HWE.out]
    exact zaA HO5.out (by have:=W3.out.size;omega)
   ·exact zm3 (W3.out.trans (WB.out.mono (by have:=W3.out.size;omega))) (Nat.le_refl _) _ HG5.out (Nat.le_refl _)
  ·have hjI:(j:Int)<6:=by omega
   cases hp:(za5 m.k).getD j false
   ·have HP:=hide hp
    clear hp
    go_wp2_with (with_reducible refine zaU rfl (.tmp 11) (.tmp 12) rfl m.k j (by omega) rfl rfl _ HP.out ?_)
    go_roundw
    case rel=>exact ⟨j+1,c3,B,by omega,by rw [zri HP.out],by go_num,by rw [zri HP.out];exact HO.out,WB.out⟩
    case measure=>simp [intOf];omega
   ·have HP:=hide hp
    have HPL:=hide (zwC HM.out (j:=j) (by omega))
    have hf0:=(Fr.out.cell 0).trans (show (wfC gc)[0]?=some (.func (.func 218) #[] #[.pointer (some ⟨gc,0,none⟩)]) from rfl)
    have hf1:=(Fr.out.cell 1).trans (show (wfC gc)[1]?=some (.func (.func 219) #[] #[.pointer (some ⟨gc,0,none⟩)]) from rfl)
    have hf2:=(Fr.out.cell 2).trans (show (wfC gc)[2]?=some (.func (.func 220) #[] #[.pointer (some ⟨gc,0,none⟩)]) from rfl)
    have hf3:=(Fr.out.cell 3).trans (show (wfC gc)[3]?=some (.func (.func 222) #[] #[.pointer (some ⟨gc,0,none⟩)]) from rfl)
    have hf4:=(Fr.out.cell 4).trans (show (wfC gc)[4]?=some (.func (.func 223) #[] #[.pointer (some ⟨gc,0,none⟩)]) from rfl)
    have hf5:=(Fr.out.cell 5).trans (show (wfC gc)[5]?=some (.func (.func 224) #[] #[.pointer (some ⟨gc,0,none⟩)]) from rfl)
    clear hp
    rcases (show j=0∨j=1∨j=2∨j=3∨j=4∨j=5 by omega) with rfl | rfl | rfl | rfl | rfl | rfl
    all_goals
     clear h6 hjI hj
     go_wp2_with (with_reducible refine zeC HP.out rfl (.tmp 11) (.tmp 12) rfl (by omega) rfl rfl ?_)
     first
      | refine (zwI wr _ m Cr.out).mono ?_
      | refine (zwH wr _ m Cr.out).mono ?_
      | refine (zwG wr _ m Cr.out).mono ?_
      | refine (zwF wr _ m Cr.out).mono ?_
      | refine (zwE wr _ m Cr.out).mono ?_
      | refine (zwD wr _ m Cr.out).mono ?_
     rintro e w4 ⟨A4,n4,c4,rfl,hc4,ha4,hb4⟩
     have HA4:=hide ha4
     have HO4:=hide (za6 HO.out hb4)
     have W4:=hide (zaa WB.out hb4 (Nat.le_refl _))
     have hs4:=hb4.size
     have HN4:=hide ha4.len
     clear ha4 hb4 hf0 hf1 hf2 hf3 hf4 hf5
     go_wp2_with (at_builtin;go_must (refine zap _ rfl (.tmp 17) (.tmp 21) 22 rfl w3.heap.size 5 i0 Tryz.underlying22 hi0 hz0 hz1 hz2 _ _ _ rfl HO4.out 0 _ A4 n4 c4 _ rfl HA4.out (by have h1:=HL.out;have h2:=HPL.out;have h3:=HN4.out;have h4:=HKey.out;omega) (by omega) ?_);intro v5 w5 ho5 hg5 _;rw [← HN4.out,← List.length_append,← zrh HP.out] at ho5;have HO5:=hide ho5;have HG5:=hide hg5;clear ho5 hg5)
     obtain ⟨A5,c5,rfl,_,_⟩:=zag HO5.out
     go_roundw
     case rel=>refine ⟨_,c5,A5,?_,?_,?_,HO5.out,W4.out.grown HG5.out (by omega) (fun g hg=>(HO4.out.lt g hg).1)⟩ <;> first | omega | rfl | go_num
     case measure=>simp [intOf]
end
end Go.Proofs.YtjindligkhdddaaGreatDoor
