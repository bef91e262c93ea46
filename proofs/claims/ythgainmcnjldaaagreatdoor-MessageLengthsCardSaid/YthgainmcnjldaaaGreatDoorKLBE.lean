/-
  Messages are compared: Same of package message, in whatever memory, given what sameUpdate answers. No condition beyond sizes that fit memory.
  Whether updates tell nothing, and are the same then: tellsNothing, sameUpdate of package message, in whatever memory, given what update's Same and Empty answer. No condition.
  Whether a message is right: Right of package message, in whatever memory, given what the part's Right and Same answer. No condition.
-/
import Derived.Test.YthgainmcnjldaaaGreatDoorKLBD
set_option linter.unusedVariables false
set_option linter.unusedSimpArgs false
namespace Go.Proofs.YthgainmcnjldaaaGreatDoor
section
open Go.RowKit
theorem zdd {z:World} {g:Nat} {k:Int} {O U N F:List Value} (hm:MeOk O U N F) (hr:z.rangeAt g 0 (meL k O U N F)) :
  z.cell? ⟨g,0,none⟩=some (.int .i64 k)∧z.rangeAt g 1 O∧z.rangeAt g 22 U∧z.rangeAt g 48 N∧z.rangeAt g 51 F :=
 ⟨hr 0 _ rfl,zcy [.int .i64 k] O (U++(N++F)) hr rfl,zcy (.int .i64 k::O) U (N++F) (by simpa [meL] using hr) (by simp [hm.o]),zcy (.int .i64 k::(O++U)) N F (by simpa [meL] using hr) (by simp [hm.o,hm.u]),zcy (.int .i64 k::(O++(U++N))) F [] (by simpa [meL] using hr) (by simp [hm.o,hm.u,hm.n])⟩
theorem zaI {o:Oper} {a:Act} {w:World} (p:Operand) (ho:o.op = .load 49 p) (b i:Nat) (hx:a.eval p = .pointer (some ⟨b,i,none⟩)) {U:List Value} (h:w.rangeAt b i U) (hl:U.length=26) :
  (execOp a.eval o).run Tryz.prog w = .ok (.value (.agg U.toArray)) w:=by
 unfold execOp
 simp only [ho,hx,Instr.loadAt,Instr.sureAddr,Sem.run_bind,Sem.run_pure,Result.andThen_ok,run_loadVar_mid w b i 49 _ _ h Tryz.underlying49 rfl (by rw [hl];kernel_rfl)]
def zid (k k':Int) (f f':Int × Int) (x y:OpP) (su:Bool) (p q:NoP):Bool:=(k==k')&&(decide (f=f')&&(zd4 x y&&(su&&zg7 p q)))
set_option maxRecDepth 20000 in
set_option maxHeartbeats 2000000 in
theorem zkr (w:World) (lo hi lo' hi':Nat) (k k':Int) (f f':Int × Int) (x y:OpP) (U U':List Value) (p q:NoP) (su:Bool) (hm:MeOk (opL x) U (noL p) (famL f)) (hm':MeOk (opL y) U' (noL q) (famL f'))
  (hx:OpAt w lo hi x) (hy:OpAt w lo' hi' y) (hp:NoAt w lo hi p) (hq:NoAt w lo' hi' q) (hh:hi≤w.heap.size) (hh':hi'≤w.heap.size) (hn:x.fn≤100000000000000)
  (hU:∀ z,Below w.heap.size w z→Calls Tryz.prog 32 #[.agg U.toArray,.agg U'.toArray] z fun e z'=>e = .returned (.bool su)∧Below z.heap.size z z') :
  Calls Tryz.prog 16 #[.agg (meC k (opL x) U (noL p) (famL f)),.agg (meC k' (opL y) U' (noL q) (famL f'))] w fun e w'=>e = .returned (.bool (zid k k' f f' x y su p q))∧Below w.heap.size w w':=by
 have S0:=hide (Two.start w 53 (meL k (opL x) U (noL p) (famL f)) (meL k' (opL y) U' (noL q) (famL f')) (X:=meC k (opL x) U (noL p) (famL f)) (Y:=meC k' (opL y) U' (noL q) (famL f')) rfl rfl)
 obtain ⟨c0,_,_,_,c5⟩:=zdd hm S0.out.x
 obtain ⟨d0,_,_,_,d5⟩:=zdd hm' S0.out.y
 have F1:=hide c5
 have F2:=hide d5
 obtain ⟨r2,h2⟩:∃ r,decide (f=f')=r:=⟨_,rfl⟩
 have H2:=hide h2
 obtain ⟨RES,hres⟩:∃ r,zid k k' f f' x y su p q=r:=⟨_,rfl⟩
 have HRES:=hide (show RES=((k==k')&&(r2&&(zd4 x y&&(su&&zg7 p q)))) by rw [← hres,← h2];rfl)
 have HM:=hide hm
 have HM':=hide hm'
 have HX:=hide hx
 have HY:=hide hy
 have HP:=hide hp
 have HQ:=hide hq
 have HU:=hide hU
 rw [hres]
 clear c5 d5 h2 hres hm hm' hx hy hp hq hU
 by_cases hk:k=k'
 rotate_left
 ·have e1:(k==k')=false:=beq_eq_false_iff_ne.2 hk
  have HR0:=hide (show RES=false by rw [HRES.out,e1];rfl)
  clear hk HRES
  go_enter Tryz.func16,Tryz.ntmps16
  go_wp2
  go_ret
  exact ⟨by rw [HR0.out];rfl,S0.out.bl⟩
 have e1:(k==k')=true:=beq_iff_eq.2 hk
 rw [e1,Bool.true_and] at HRES
 clear hk
 cases r2
 ·have HR0:=hide (show RES=false by rw [HRES.out];rfl)
  clear HRES
  go_enter Tryz.func16,Tryz.ntmps16
  go_wp2_with (first
   | (with_reducible refine zab rfl (zax (.tmp 11) rfl w.heap.size 51 rfl F1.out) ?_)
   | (with_reducible refine zab rfl (zax (.tmp 13) rfl (w.heap.size+1) 51 rfl F2.out) ?_)
   | (with_reducible refine zab rfl (zee (.tmp 12) (.tmp 14) rfl rfl rfl false H2.out) ?_))
  go_ret
  exact ⟨by rw [HR0.out];rfl,S0.out.bl⟩
 rw [Bool.true_and] at HRES
 obtain ⟨r3,h3⟩:∃ r,zd4 x y=r:=⟨_,rfl⟩
 obtain ⟨r5,h5⟩:∃ r,zg7 p q=r:=⟨_,rfl⟩
 have H3:=hide h3
 have H5:=hide h5
 rw [h3,h5] at HRES
 clear h3 h5
 obtain ⟨_,o1,_,_,_⟩:=zdd HM.out S0.out.x
 obtain ⟨_,o2,_,_,_⟩:=zdd HM'.out S0.out.y
 have O1:=hide o1
 have O2:=hide o2
 have IX:=hide HX.out.ib
 have IY:=hide HY.out.ib
 clear o1 o2
 go_enter Tryz.func16,Tryz.ntmps16
 go_wp2_with (first
  | (with_reducible refine zab rfl (zax (.tmp 11) rfl w.heap.size 51 rfl F1.out) ?_)
  | (with_reducible refine zab rfl (zax (.tmp 13) rfl (w.heap.size+1) 51 rfl F2.out) ?_)
  | (with_reducible refine zab rfl (zee (.tmp 12) (.tmp 14) rfl rfl rfl true H2.out) ?_)
  | (with_reducible refine zab rfl (zcC (.tmp 18) rfl w.heap.size 1 rfl O1.out IX.out) ?_)
  | (with_reducible refine zab rfl (zcC (.tmp 20) rfl (w.heap.size+1) 1 rfl O2.out IY.out) ?_))
 refine (zjV _ lo hi lo' hi' x y (HX.out.below (S0.out.bl.mono hh)) (HY.out.below (S0.out.bl.mono hh')) (Nat.le_trans hh S0.out.bl.size) (Nat.le_trans hh' S0.out.bl.size) hn).mono ?_
 rw [H3.out]
 rintro e z1 ⟨rfl,hb⟩
 have S1:=hide (S0.out.on hb)
 clear hb S0 F1 F2 O1 O2 c0 d0
 cases r3
 ·have HR0:=hide (show RES=false by rw [HRES.out];rfl)
  go_wp2
  go_ret
  exact ⟨by rw [HR0.out];rfl,S1.out.bl⟩
 rw [Bool.true_and] at HRES
 obtain ⟨_,_,u1,_,_⟩:=zdd HM.out S1.out.x
 obtain ⟨_,_,u2,_,_⟩:=zdd HM'.out S1.out.y
 have U1:=hide u1
 have U2:=hide u2
 clear u1 u2
 go_wp2_with (first
  | (with_reducible refine zab rfl (zaI (.tmp 25) rfl w.heap.size 22 rfl U1.out HM.out.u) ?_)
  | (with_reducible refine zab rfl (zaI (.tmp 27) rfl (w.heap.size+1) 22 rfl U2.out HM'.out.u) ?_))
 refine (HU.out z1 S1.out.bl).mono ?_
 rintro e z2 ⟨rfl,hb⟩
 have S2:=hide (S1.out.on hb)
 clear hb S1 U1 U2
 cases su
 ·have HR0:=hide (show RES=false by rw [HRES.out];rfl)
  go_wp2
  go_ret
  exact ⟨by rw [HR0.out];rfl,S2.out.bl⟩
 rw [Bool.true_and] at HRES
 obtain ⟨_,_,_,v1,_⟩:=zdd HM.out S2.out.x
 obtain ⟨_,_,_,v2,_⟩:=zdd HM'.out S2.out.y
 have V1:=hide v1
 have V2:=hide v2
 clear v1 v2
 go_wp2_with (first
  | (with_reducible refine zab rfl (zcD (.tmp 32) rfl w.heap.size 48 rfl V1.out) ?_)
  | (with_reducible refine zab rfl (zcD (.tmp 34) rfl (w.heap.size+1) 48 rfl V2.out) ?_))
 refine (zjW _ lo hi lo' hi' p q (HP.out.below (S2.out.bl.mono hh)) (HQ.out.below (S2.out.bl.mono hh')) (Nat.le_trans hh S2.out.bl.size) (Nat.le_trans hh' S2.out.bl.size)).mono ?_
 rw [H5.out]
 rintro e z3 ⟨rfl,hb⟩
 have S3:=hide (S2.out.on hb)
 clear hb S2
 go_wp2
 go_ret
 exact ⟨by rw [HRES.out];rfl,S3.out.bl⟩
end
section
set_option maxRecDepth 20000
set_option maxHeartbeats 1000000
open Go.RowKit
theorem zii {z z':World} {g i:Nat} {L:List Value} (h:z.rangeAt g i L) (hb:Below z.heap.size z z'):z'.rangeAt g i L:=fun j u hu=>by
 have h1:=h j u hu
 rw [hb.cell (World.block_lt_of_cell? _ _ h1)]
 exact h1
theorem znY:Tryz.prog.built 49 []=some zUpL.toArray:=by kernel_rfl
theorem zhy {o:Oper} {a:Act} {w:World} (ho:o.op = .build 49 #[]):(execOp a.eval o).run Tryz.prog w = .ok (.value (.agg zUpL.toArray)) w:=by
 unfold execOp
 simp only [ho,List.map_toArray,List.map_nil,Sem.run_bind,run_build w _ _ _ znY,Result.andThen_ok,Sem.run_pure]
theorem zou (w:World) (U:List Value) (hl:U.length=26) (E:Array Value) (r1 r2:Bool)
  (hE:∀ z,Below w.heap.size w z→Calls Tryz.prog 90 #[] z fun e z'=>e = .returned (.agg E)∧Below z.heap.size z z')
  (h1:∀ z,Below w.heap.size w z→Calls Tryz.prog 55 #[.agg U.toArray,.agg E] z fun e z'=>e = .returned (.bool r1)∧Below z.heap.size z z')
  (h2:∀ z,Below w.heap.size w z→Calls Tryz.prog 55 #[.agg U.toArray,.agg zUpL.toArray] z fun e z'=>e = .returned (.bool r2)∧Below z.heap.size z z') :
  Calls Tryz.prog 56 #[.agg U.toArray] w fun e w'=>e = .returned (.bool (r1||r2))∧Below w.heap.size w w':=by
 have B0:=hide (zaj (l:=U) (Blk.new w 49 U.toArray))
 have W0:=hide (zak ((Below.refl w.heap.size w).alloc (Nat.le_refl _) (.cells U.toArray 49)))
 have HL:=hide hl
 have HE:=hide hE
 have H1:=hide h1
 have H2:=hide h2
 have HB:∀ z z',z.rangeAt w.heap.size 0 U→Below z.heap.size z z'→z'.rangeAt w.heap.size 0 U:=fun z z' h hb=>zii h hb
 clear hl hE h1 h2
 go_enter Tryz.func56,Tryz.ntmps56
 go_wp2_with fail
 refine wp_region_held_drew (S:=fun z=>z.rangeAt w.heap.size 0 U) (by kernel_rfl) (zii B0.out (zak (Below.refl _ _))) (fun hHeld=>?_)
 refine rgV 0 (.agg U.toArray) (fun w' hSw=>zaI (.tmp 1) rfl w.heap.size 0 rfl hSw HL.out) ?_
 refine rgB (HE.out _ W0.out) (hb:=HB) ?_
 intro wa hHeld hba
 have WA:=hide (zaa W0.out hba (Nat.le_refl _))
 clear hba
 refine rgB (H1.out wa WA.out) (hb:=HB) ?_
 intro wb hHeld hbb
 have WB:=hide (WA.out.trans (hbb.mono WA.out.size))
 clear hbb WA
 cases r1
 ·repeat refine rgA (F:=fun _=>True) (fun _ _=>trivial) ?_
  refine rgV 4 (.agg U.toArray) (fun w' hSw=>zaI (.tmp 1) rfl w.heap.size 0 rfl hSw HL.out) ?_
  refine rgV 5 (.agg zUpL.toArray) (fun w' hSw=>zhy rfl) ?_
  refine rgB (H2.out wb WB.out) (hb:=HB) ?_
  intro wc hHeld hbc
  have WC:=hide (WB.out.trans (hbc.mono WB.out.size))
  clear hbc
  repeat refine rgA (F:=fun _=>True) (fun _ _=>trivial) ?_
  refine wpAnyH_done (by kernel_rfl) ?_ _
  go_wp2
  go_ret
  exact ⟨rfl,WC.out⟩
 ·repeat (first | refine rgA (F:=fun _=>True) (fun _ _=>trivial) ?_ | refine rgZ ?_)
  refine wpAnyH_done (by kernel_rfl) ?_ _
  go_wp2
  go_ret
  exact ⟨rfl,WB.out⟩
theorem zoG (w:World) (U U':List Value) (hl:U.length=26) (hl':U'.length=26) (r0 t1 t2:Bool)
  (h0:∀ z,Below w.heap.size w z→Calls Tryz.prog 55 #[.agg U.toArray,.agg U'.toArray] z fun e z'=>e = .returned (.bool r0)∧Below z.heap.size z z')
  (h1:∀ z,Below w.heap.size w z→Calls Tryz.prog 56 #[.agg U.toArray] z fun e z'=>e = .returned (.bool t1)∧Below z.heap.size z z')
  (h2:∀ z,Below w.heap.size w z→Calls Tryz.prog 56 #[.agg U'.toArray] z fun e z'=>e = .returned (.bool t2)∧Below z.heap.size z z') :
  Calls Tryz.prog 32 #[.agg U.toArray,.agg U'.toArray] w fun e w'=>e = .returned (.bool (r0||(t1&&t2)))∧Below w.heap.size w w':=by
 have S0:=hide (Two.start w 49 U U' (X:=U.toArray) (Y:=U'.toArray) rfl rfl)
 have HL:=hide hl
 have HL':=hide hl'
 have H0:=hide h0
 have H1:=hide h1
 have H2:=hide h2
 clear hl hl' h0 h1 h2
 go_enter Tryz.func32,Tryz.ntmps32
 go_wp2_with (first
  | (with_reducible refine zab rfl (zaI (.tmp 2) rfl w.heap.size 0 rfl S0.out.x HL.out) ?_)
  | (with_reducible refine zab rfl (zaI (.tmp 3) rfl (w.heap.size+1) 0 rfl S0.out.y HL'.out) ?_))
 refine (H0.out _ S0.out.bl).mono ?_
 rintro e z1 ⟨rfl,hb⟩
 have S1:=hide (S0.out.on hb)
 clear hb S0
 cases r0
 rotate_left
 ·go_wp2
  go_ret
  exact ⟨rfl,S1.out.bl⟩
 go_wp2_with (with_reducible refine zab rfl (zaI (.tmp 2) rfl w.heap.size 0 rfl S1.out.x HL.out) ?_)
 refine (H1.out z1 S1.out.bl).mono ?_
 rintro e z2 ⟨rfl,hb⟩
 have S2:=hide (S1.out.on hb)
 clear hb S1
 cases t1
 ·go_wp2
  go_ret
  exact ⟨rfl,S2.out.bl⟩
 go_wp2_with (with_reducible refine zab rfl (zaI (.tmp 3) rfl (w.heap.size+1) 0 rfl S2.out.y HL'.out) ?_)
 refine (H2.out z2 S2.out.bl).mono ?_
 rintro e z3 ⟨rfl,hb⟩
 have S3:=hide (S2.out.on hb)
 clear hb S2
 go_wp2
 go_ret
 exact ⟨rfl,S3.out.bl⟩
end
section
set_option maxRecDepth 20000
set_option maxHeartbeats 1000000
open Go.RowKit
theorem zjD {L:List Value} (h:∀ v∈L,v.oneCell'=true):L.toArray.all (·.oneCell')=true:=by
 rw [Array.all_eq_true_iff_forall_mem]
 intro v hv
 exact h v (by simpa using hv)
theorem zqt (k:Int):Tryz.prog.built 53 [(0,.int .i64 k)]=some (zMe k):=by kernel_rfl
theorem zbQ {o:Oper} {a:Act} {w:World} (x:Operand) (ho:o.op = .build 53 #[(0,x)]) (k:Int) (hx:a.eval x = .int .i64 k):(execOp a.eval o).run Tryz.prog w = .ok (.value (.agg (zMe k))) w:=by
 unfold execOp
 simp only [ho,List.map_toArray,List.map_cons,List.map_nil,hx,Sem.run_bind,run_build w _ _ _ (zqt k),Result.andThen_ok,Sem.run_pure]
theorem zlo (w:World) (O U N F:List Value) (hm:MeOk O U N F) (rs:Bool)
  (hS:∀ z,Below w.heap.size w z→Calls Tryz.prog 16 #[.agg (meC 4 O U N F),.agg (zMe 4)] z fun e z'=>e = .returned (.bool rs)∧Below z.heap.size z z') :
  Calls Tryz.prog 26 #[.agg (meC 4 O U N F)] w fun e w'=>e = .returned (.bool rs)∧Below w.heap.size w w':=by
 have B0:=hide (Blk.new w 53 (meC 4 O U N F)).drew
 have W0:=hide (zak ((Below.refl w.heap.size w).alloc (Nat.le_refl _) (.cells (meC 4 O U N F) 53)))
 have HM:=hide hm
 have HS:=hide hS
 have K:∀ z,Blk z w.heap.size 53 (meC 4 O U N F)→z.cell? ⟨w.heap.size,0,none⟩=some (.int .i64 4)∧True∧True∧True∧True∧True:=fun z h=>⟨(zaQ HM.out h).1,trivial,trivial,trivial,trivial,trivial⟩
 clear hm hS
 go_enter Tryz.func26,Tryz.ntmps26
 go_wp2_with fail
 refine wp_region_held_drew (S:=fun z=>Blk z w.heap.size 53 (meC 4 O U N F)) (by kernel_rfl) B0.out (fun hHeld=>?_)
 refine rgV 0 (.agg (meC 4 O U N F)) (fun w' hSw=>zav (.tmp 1) rfl w.heap.size rfl HM.out hSw) ?_
 repeat refine rgA K ?_
 have W1:=hide W0.out
 have hsz:(w.alloc (.cells (meC 4 O U N F) 53)).drew.heap.size=w.heap.size+1:=by simp
 generalize (w.alloc (.cells (meC 4 O U N F) 53)).drew=wd at *
 have v3:=Blk.new wd 53 (zMe 0)
 rw [hsz] at v3
 have V3:=hide v3
 clear v3
 refine rgM (fun hHeld=>?_)
 have hz:(meC 4 O U N F).size=53:=zct HM.out
 have G3:=hide (zal (meC 4 O U N F).toList 0 _ _ (zae (wd.alloc (.cells (zMe 0) 53)) (some (w.heap.size+1))))
 have hSt:Blk ((wd.alloc (.cells (zMe 0) 53)).setCells (w.heap.size+1) 0 (meC 4 O U N F).toList) w.heap.size 53 (meC 4 O U N F):=hHeld.grown G3.out (by intro e;injection e;omega)
 refine zaF (i:=5) rfl (by kernel_rfl) (by rfl) (zaM 53 (.tmp 3) (.tmp 5) rfl (w.heap.size+1) rfl (meC 4 O U N F) rfl (by rw [hz];show _=some 53;kernel_rfl) (zdD HM.out) V3.out (by rw [hz];rfl)) hSt (fun hHeld=>?_)
 have V4:=hide (zcv V3.out (show (zMe 0).size=(meC 4 O U N F).size by rw [hz];rfl))
 have W2:=hide ((W1.out.alloc (by omega) (.cells (zMe 0) 53)).grown G3.out (by simp;omega) (fun q hq=>by injection hq with hq;omega))
 have S2:=hide hHeld
 clear V3 W1 W0 hSt G3 B0
 generalize ((wd.alloc (.cells (zMe 0) 53)).setCells (w.heap.size+1) 0 (meC 4 O U N F).toList)=w3 at *
 refine rgN ?_
 repeat refine rgA (F:=fun _=>True) (fun _ _=>trivial) ?_
 refine wpAnyH_done (by kernel_rfl) ?_ _
 have k0:=(K w3 S2.out).1
 have hHZ:=hide hz
 clear hz hHeld K
 go_wp2_with (first
  | (with_reducible refine zab rfl (zav (.tmp 3) rfl (w.heap.size+1) rfl HM.out V4.out) ?_)
  | (with_reducible refine zab rfl (zbQ (.tmp 43) rfl 4 rfl) ?_))
 refine (HS.out w3 W2.out).mono ?_
 rintro e w4 ⟨rfl,hb⟩
 have W4:=hide (W2.out.trans (hb.mono W2.out.size))
 clear hb
 go_wp2
 go_ret
 exact ⟨rfl,W4.out⟩
theorem zoX (w:World) (L O U N F:List Value) (hm:MeOk L U N F) (hmz:MeOk zOpL U N F) (r rs:Bool)
  (hP:∀ z,Below w.heap.size w z→Calls Tryz.prog 43 #[.agg L.toArray] z fun e z'=>e = .returned (.bool r)∧Below z.heap.size z z')
  (hS:∀ z,Below w.heap.size w z→Calls Tryz.prog 16 #[.agg (meC 1 zOpL U N F),.agg (zMe 1)] z fun e z'=>e = .returned (.bool rs)∧Below z.heap.size z z') :
  Calls Tryz.prog 26 #[.agg (meC 1 L U N F)] w fun e w'=>e = .returned (.bool (r&&rs))∧Below w.heap.size w w':=by
 have B0:=hide (Blk.new w 53 (meC 1 L U N F)).drew
 have W0:=hide (zak ((Below.refl w.heap.size w).alloc (Nat.le_refl _) (.cells (meC 1 L U N F) 53)))
 have HM:=hide hm
 have HS:=hide hS
 have K:∀ z,Blk z w.heap.size 53 (meC 1 L U N F)→z.cell? ⟨w.heap.size,0,none⟩=some (.int .i64 1)∧True∧True∧True∧True∧True:=fun z h=>⟨(zaQ HM.out h).1,trivial,trivial,trivial,trivial,trivial⟩
 have HMZ:=hide hmz
 have HP:=hide hP
 clear hm hS hmz hP
 go_enter Tryz.func26,Tryz.ntmps26
 go_wp2_with fail
 refine wp_region_held_drew (S:=fun z=>Blk z w.heap.size 53 (meC 1 L U N F)) (by kernel_rfl) B0.out (fun hHeld=>?_)
 refine rgV 0 (.agg (meC 1 L U N F)) (fun w' hSw=>zav (.tmp 1) rfl w.heap.size rfl HM.out hSw) ?_
 repeat refine rgA K ?_
 have W1:=hide W0.out
 have hsz:(w.alloc (.cells (meC 1 L U N F) 53)).drew.heap.size=w.heap.size+1:=by simp
 generalize (w.alloc (.cells (meC 1 L U N F) 53)).drew=wd at *
 have v3:=Blk.new wd 53 (zMe 0)
 rw [hsz] at v3
 have V3:=hide v3
 clear v3
 refine rgM (fun hHeld=>?_)
 have hz:(meC 1 L U N F).size=53:=zct HM.out
 have G3:=hide (zal (meC 1 L U N F).toList 0 _ _ (zae (wd.alloc (.cells (zMe 0) 53)) (some (w.heap.size+1))))
 have hSt:Blk ((wd.alloc (.cells (zMe 0) 53)).setCells (w.heap.size+1) 0 (meC 1 L U N F).toList) w.heap.size 53 (meC 1 L U N F):=hHeld.grown G3.out (by intro e;injection e;omega)
 refine zaF (i:=5) rfl (by kernel_rfl) (by rfl) (zaM 53 (.tmp 3) (.tmp 5) rfl (w.heap.size+1) rfl (meC 1 L U N F) rfl (by rw [hz];show _=some 53;kernel_rfl) (zdD HM.out) V3.out (by rw [hz];rfl)) hSt (fun hHeld=>?_)
 have V4:=hide (zcv V3.out (show (zMe 0).size=(meC 1 L U N F).size by rw [hz];rfl))
 have W2:=hide ((W1.out.alloc (by omega) (.cells (zMe 0) 53)).grown G3.out (by simp;omega) (fun q hq=>by injection hq with hq;omega))
 have S2:=hide hHeld
 clear V3 W1 W0 hSt G3 B0
 generalize ((wd.alloc (.cells (zMe 0) 53)).setCells (w.heap.size+1) 0 (meC 1 L U N F).toList)=w3 at *
 refine rgN ?_
 repeat refine rgA (F:=fun _=>True) (fun _ _=>trivial) ?_
 refine wpAnyH_done (by kernel_rfl) ?_ _
 obtain ⟨k0,q1,q2,q3,q4⟩:=zaQ HM.out S2.out
 have RP:=hide q1
 have LL:=hide (show L.length=21 from HM.out.o)
 clear hHeld K hz q1 q2 q3 q4
 have exec_part:∀ {o:Oper} {a:Act} {z:World} (p:Operand) (ho:o.op = .load 40 p) (b i:Nat) (hx:a.eval p = .pointer (some ⟨b,i,none⟩)) (h:z.rangeAt b i L),(execOp a.eval o).run Tryz.prog z = .ok (.value (.agg L.toArray)) z:=by
  intro o a z p ho b i hx h
  unfold execOp
  simp only [ho,hx,Instr.loadAt,Instr.sureAddr,Sem.run_bind,Sem.run_pure,Result.andThen_ok,run_loadVar_mid z b i 40 _ _ h Tryz.underlying40 rfl (by rw [LL.out];kernel_rfl)]
 go_wp2_with (with_reducible refine zab rfl (exec_part (.tmp 14) rfl w.heap.size 1 rfl RP.out) ?_)
 refine (HP.out w3 W2.out).mono ?_
 rintro e w4 ⟨rfl,hb⟩
 have W4:=hide (W2.out.trans (hb.mono W2.out.size))
 have S4:=hide (S2.out.over hb)
 have V5:=hide (V4.out.over hb)
 clear hb exec_part
 go_wp2_with (refine zbk rfl 40 (.tmp 17) (.tmp 13) rfl (w.heap.size+1) 1 rfl zOpL.toArray rfl (by show _=some 21;kernel_rfl) (zjD zn7) [.int .i64 1] L (U++(N++F)) (V5.out) (by simp [HM.out.o,HM.out.u,HM.out.n]) (by rw [LL.out];rfl) ?_;intro w5 hb5 hg5;have K5:=hide (show Blk w5 (w.heap.size+1) 53 (meC 1 zOpL U N F) from by have h:=hb5;simpa [meC,meL] using h);have HG5:=hide hg5;clear hb5 hg5;refine Hid.out ?_)
 refine hide ?_
 have W5:=hide (W4.out.grown HG5.out W4.out.size (fun q hq=>by injection hq with hq;omega))
 have S5:=hide (S4.out.grown HG5.out (by intro e;injection e;omega))
 have k5:=(zaQ HM.out S5.out).1
 clear V5 S4 HG5 k0
 cases r
 ·go_wp2
  go_ret
  exact ⟨rfl,W5.out⟩
 go_wp2_with (first
  | (with_reducible refine zab rfl (zav (.tmp 3) rfl (w.heap.size+1) rfl HMZ.out K5.out) ?_)
  | (with_reducible refine zab rfl (zbQ (.tmp 43) rfl 1 rfl) ?_))
 refine (HS.out w5 W5.out).mono ?_
 rintro e w6 ⟨rfl,hb⟩
 have W6:=hide (W5.out.trans (hb.mono W5.out.size))
 clear hb
 go_wp2
 go_ret
 exact ⟨rfl,W6.out⟩
theorem zs8 (w:World) (L O U N F:List Value) (hm:MeOk O L N F) (hmz:MeOk O zUpL N F) (r rs:Bool)
  (hP:∀ z,Below w.heap.size w z→Calls Tryz.prog 44 #[.agg L.toArray] z fun e z'=>e = .returned (.bool r)∧Below z.heap.size z z')
  (hS:∀ z,Below w.heap.size w z→Calls Tryz.prog 16 #[.agg (meC 2 O zUpL N F),.agg (zMe 2)] z fun e z'=>e = .returned (.bool rs)∧Below z.heap.size z z') :
  Calls Tryz.prog 26 #[.agg (meC 2 O L N F)] w fun e w'=>e = .returned (.bool (r&&rs))∧Below w.heap.size w w':=by
 have B0:=hide (Blk.new w 53 (meC 2 O L N F)).drew
 have W0:=hide (zak ((Below.refl w.heap.size w).alloc (Nat.le_refl _) (.cells (meC 2 O L N F) 53)))
 have HM:=hide hm
 have HS:=hide hS
 have K:∀ z,Blk z w.heap.size 53 (meC 2 O L N F)→z.cell? ⟨w.heap.size,0,none⟩=some (.int .i64 2)∧True∧True∧True∧True∧True:=fun z h=>⟨(zaQ HM.out h).1,trivial,trivial,trivial,trivial,trivial⟩
 have HMZ:=hide hmz
 have HP:=hide hP
 clear hm hS hmz hP
 go_enter Tryz.func26,Tryz.ntmps26
 go_wp2_with fail
 refine wp_region_held_drew (S:=fun z=>Blk z w.heap.size 53 (meC 2 O L N F)) (by kernel_rfl) B0.out (fun hHeld=>?_)
 refine rgV 0 (.agg (meC 2 O L N F)) (fun w' hSw=>zav (.tmp 1) rfl w.heap.size rfl HM.out hSw) ?_
 repeat refine rgA K ?_
 have W1:=hide W0.out
 have hsz:(w.alloc (.cells (meC 2 O L N F) 53)).drew.heap.size=w.heap.size+1:=by simp
 generalize (w.alloc (.cells (meC 2 O L N F) 53)).drew=wd at *
 have v3:=Blk.new wd 53 (zMe 0)
 rw [hsz] at v3
 have V3:=hide v3
 clear v3
 refine rgM (fun hHeld=>?_)
 have hz:(meC 2 O L N F).size=53:=zct HM.out
 have G3:=hide (zal (meC 2 O L N F).toList 0 _ _ (zae (wd.alloc (.cells (zMe 0) 53)) (some (w.heap.size+1))))
 have hSt:Blk ((wd.alloc (.cells (zMe 0) 53)).setCells (w.heap.size+1) 0 (meC 2 O L N F).toList) w.heap.size 53 (meC 2 O L N F):=hHeld.grown G3.out (by intro e;injection e;omega)
 refine zaF (i:=5) rfl (by kernel_rfl) (by rfl) (zaM 53 (.tmp 3) (.tmp 5) rfl (w.heap.size+1) rfl (meC 2 O L N F) rfl (by rw [hz];show _=some 53;kernel_rfl) (zdD HM.out) V3.out (by rw [hz];rfl)) hSt (fun hHeld=>?_)
 have V4:=hide (zcv V3.out (show (zMe 0).size=(meC 2 O L N F).size by rw [hz];rfl))
 have W2:=hide ((W1.out.alloc (by omega) (.cells (zMe 0) 53)).grown G3.out (by simp;omega) (fun q hq=>by injection hq with hq;omega))
 have S2:=hide hHeld
 clear V3 W1 W0 hSt G3 B0
 generalize ((wd.alloc (.cells (zMe 0) 53)).setCells (w.heap.size+1) 0 (meC 2 O L N F).toList)=w3 at *
 refine rgN ?_
 repeat refine rgA (F:=fun _=>True) (fun _ _=>trivial) ?_
 refine wpAnyH_done (by kernel_rfl) ?_ _
 obtain ⟨k0,q1,q2,q3,q4⟩:=zaQ HM.out S2.out
 have RP:=hide q2
 have LL:=hide (show L.length=26 from HM.out.u)
 clear hHeld K hz q1 q2 q3 q4
 have exec_part:∀ {o:Oper} {a:Act} {z:World} (p:Operand) (ho:o.op = .load 49 p) (b i:Nat) (hx:a.eval p = .pointer (some ⟨b,i,none⟩)) (h:z.rangeAt b i L),(execOp a.eval o).run Tryz.prog z = .ok (.value (.agg L.toArray)) z:=by
  intro o a z p ho b i hx h
  unfold execOp
  simp only [ho,hx,Instr.loadAt,Instr.sureAddr,Sem.run_bind,Sem.run_pure,Result.andThen_ok,run_loadVar_mid z b i 49 _ _ h Tryz.underlying49 rfl (by rw [LL.out];kernel_rfl)]
 go_wp2_with (with_reducible refine zab rfl (exec_part (.tmp 21) rfl w.heap.size 22 rfl RP.out) ?_)
 refine (HP.out w3 W2.out).mono ?_
 rintro e w4 ⟨rfl,hb⟩
 have W4:=hide (W2.out.trans (hb.mono W2.out.size))
 have S4:=hide (S2.out.over hb)
 have V5:=hide (V4.out.over hb)
 clear hb exec_part
 go_wp2_with (refine zbk rfl 49 (.tmp 24) (.tmp 20) rfl (w.heap.size+1) 22 rfl zUpL.toArray rfl (by show _=some 26;kernel_rfl) (zjD ziG) (.int .i64 2::O) L (N++F) (by simpa [meC,meL] using V5.out) (by simp [HM.out.o,HM.out.u,HM.out.n]) (by rw [LL.out];rfl) ?_;intro w5 hb5 hg5;have K5:=hide (show Blk w5 (w.heap.size+1) 53 (meC 2 O zUpL N F) from by have h:=hb5;simpa [meC,meL] using h);have HG5:=hide hg5;clear hb5 hg5;refine Hid.out ?_)
 refine hide ?_
 have W5:=hide (W4.out.grown HG5.out W4.out.size (fun q hq=>by injection hq with hq;omega))
 have S5:=hide (S4.out.grown HG5.out (by intro e;injection e;omega))
 have k5:=(zaQ HM.out S5.out).1
 clear V5 S4 HG5 k0
 cases r
 ·go_wp2
  go_ret
  exact ⟨rfl,W5.out⟩
 go_wp2_with (first
  | (with_reducible refine zab rfl (zav (.tmp 3) rfl (w.heap.size+1) rfl HMZ.out K5.out) ?_)
  | (with_reducible refine zab rfl (zbQ (.tmp 43) rfl 2 rfl) ?_))
 refine (HS.out w5 W5.out).mono ?_
 rintro e w6 ⟨rfl,hb⟩
 have W6:=hide (W5.out.trans (hb.mono W5.out.size))
 clear hb
 go_wp2
 go_ret
 exact ⟨rfl,W6.out⟩
theorem zs7 (w:World) (L O U N F:List Value) (hm:MeOk O U L F) (hmz:MeOk O U zNoL F) (r rs:Bool)
  (hP:∀ z,Below w.heap.size w z→Calls Tryz.prog 45 #[.agg L.toArray] z fun e z'=>e = .returned (.bool r)∧Below z.heap.size z z')
  (hS:∀ z,Below w.heap.size w z→Calls Tryz.prog 16 #[.agg (meC 3 O U zNoL F),.agg (zMe 3)] z fun e z'=>e = .returned (.bool rs)∧Below z.heap.size z z') :
  Calls Tryz.prog 26 #[.agg (meC 3 O U L F)] w fun e w'=>e = .returned (.bool (r&&rs))∧Below w.heap.size w w':=by
 have B0:=hide (Blk.new w 53 (meC 3 O U L F)).drew
 have W0:=hide (zak ((Below.refl w.heap.size w).alloc (Nat.le_refl _) (.cells (meC 3 O U L F) 53)))
 have HM:=hide hm
 have HS:=hide hS
 have K:∀ z,Blk z w.heap.size 53 (meC 3 O U L F)→z.cell? ⟨w.heap.size,0,none⟩=some (.int .i64 3)∧True∧True∧True∧True∧True:=fun z h=>⟨(zaQ HM.out h).1,trivial,trivial,trivial,trivial,trivial⟩
 have HMZ:=hide hmz
 have HP:=hide hP
 clear hm hS hmz hP
 go_enter Tryz.func26,Tryz.ntmps26
 go_wp2_with fail
 refine wp_region_held_drew (S:=fun z=>Blk z w.heap.size 53 (meC 3 O U L F)) (by kernel_rfl) B0.out (fun hHeld=>?_)
 refine rgV 0 (.agg (meC 3 O U L F)) (fun w' hSw=>zav (.tmp 1) rfl w.heap.size rfl HM.out hSw) ?_
 repeat refine rgA K ?_
 have W1:=hide W0.out
 have hsz:(w.alloc (.cells (meC 3 O U L F) 53)).drew.heap.size=w.heap.size+1:=by simp
 generalize (w.alloc (.cells (meC 3 O U L F) 53)).drew=wd at *
 have v3:=Blk.new wd 53 (zMe 0)
 rw [hsz] at v3
 have V3:=hide v3
 clear v3
 refine rgM (fun hHeld=>?_)
 have hz:(meC 3 O U L F).size=53:=zct HM.out
 have G3:=hide (zal (meC 3 O U L F).toList 0 _ _ (zae (wd.alloc (.cells (zMe 0) 53)) (some (w.heap.size+1))))
 have hSt:Blk ((wd.alloc (.cells (zMe 0) 53)).setCells (w.heap.size+1) 0 (meC 3 O U L F).toList) w.heap.size 53 (meC 3 O U L F):=hHeld.grown G3.out (by intro e;injection e;omega)
 refine zaF (i:=5) rfl (by kernel_rfl) (by rfl) (zaM 53 (.tmp 3) (.tmp 5) rfl (w.heap.size+1) rfl (meC 3 O U L F) rfl (by rw [hz];show _=some 53;kernel_rfl) (zdD HM.out) V3.out (by rw [hz];rfl)) hSt (fun hHeld=>?_)
 have V4:=hide (zcv V3.out (show (zMe 0).size=(meC 3 O U L F).size by rw [hz];rfl))
 have W2:=hide ((W1.out.alloc (by omega) (.cells (zMe 0) 53)).grown G3.out (by simp;omega) (fun q hq=>by injection hq with hq;omega))
 have S2:=hide hHeld
 clear V3 W1 W0 hSt G3 B0
 generalize ((wd.alloc (.cells (zMe 0) 53)).setCells (w.heap.size+1) 0 (meC 3 O U L F).toList)=w3 at *
 refine rgN ?_
 repeat refine rgA (F:=fun _=>True) (fun _ _=>trivial) ?_
 refine wpAnyH_done (by kernel_rfl) ?_ _
 obtain ⟨k0,q1,q2,q3,q4⟩:=zaQ HM.out S2.out
 have RP:=hide q3
 have LL:=hide (show L.length=3 from HM.out.n)
 clear hHeld K hz q1 q2 q3 q4
 have exec_part:∀ {o:Oper} {a:Act} {z:World} (p:Operand) (ho:o.op = .load 26 p) (b i:Nat) (hx:a.eval p = .pointer (some ⟨b,i,none⟩)) (h:z.rangeAt b i L),(execOp a.eval o).run Tryz.prog z = .ok (.value (.agg L.toArray)) z:=by
  intro o a z p ho b i hx h
  unfold execOp
  simp only [ho,hx,Instr.loadAt,Instr.sureAddr,Sem.run_bind,Sem.run_pure,Result.andThen_ok,run_loadVar_mid z b i 26 _ _ h Tryz.underlying26 rfl (by rw [LL.out];kernel_rfl)]
 go_wp2_with (with_reducible refine zab rfl (exec_part (.tmp 28) rfl w.heap.size 48 rfl RP.out) ?_)
 refine (HP.out w3 W2.out).mono ?_
 rintro e w4 ⟨rfl,hb⟩
 have W4:=hide (W2.out.trans (hb.mono W2.out.size))
 have S4:=hide (S2.out.over hb)
 have V5:=hide (V4.out.over hb)
 clear hb exec_part
 go_wp2_with (refine zbk rfl 26 (.tmp 31) (.tmp 27) rfl (w.heap.size+1) 48 rfl zNoL.toArray rfl (by show _=some 3;kernel_rfl) (zjD ziI) (.int .i64 3::(O++U)) L F (by simpa [meC,meL] using V5.out) (by simp [HM.out.o,HM.out.u,HM.out.n]) (by rw [LL.out];rfl) ?_;intro w5 hb5 hg5;have K5:=hide (show Blk w5 (w.heap.size+1) 53 (meC 3 O U zNoL F) from by have h:=hb5;simpa [meC,meL] using h);have HG5:=hide hg5;clear hb5 hg5;refine Hid.out ?_)
 refine hide ?_
 have W5:=hide (W4.out.grown HG5.out W4.out.size (fun q hq=>by injection hq with hq;omega))
 have S5:=hide (S4.out.grown HG5.out (by intro e;injection e;omega))
 have k5:=(zaQ HM.out S5.out).1
 clear V5 S4 HG5 k0
 cases r
 ·go_wp2
  go_ret
  exact ⟨rfl,W5.out⟩
 go_wp2_with (first
  | (with_reducible refine zab rfl (zav (.tmp 3) rfl (w.heap.size+1) rfl HMZ.out K5.out) ?_)
  | (with_reducible refine zab rfl (zbQ (.tmp 43) rfl 3 rfl) ?_))
 refine (HS.out w5 W5.out).mono ?_
 rintro e w6 ⟨rfl,hb⟩
 have W6:=hide (W5.out.trans (hb.mono W5.out.size))
 clear hb
 go_wp2
 go_ret
 exact ⟨rfl,W6.out⟩
theorem zs6 (w:World) (L O U N F:List Value) (hm:MeOk O U N L) (hmz:MeOk O U N zFaL) (r rs:Bool)
  (hP:∀ z,Below w.heap.size w z→Calls Tryz.prog 46 #[.agg L.toArray] z fun e z'=>e = .returned (.bool r)∧Below z.heap.size z z')
  (hS:∀ z,Below w.heap.size w z→Calls Tryz.prog 16 #[.agg (meC 5 O U N zFaL),.agg (zMe 5)] z fun e z'=>e = .returned (.bool rs)∧Below z.heap.size z z') :
  Calls Tryz.prog 26 #[.agg (meC 5 O U N L)] w fun e w'=>e = .returned (.bool (r&&rs))∧Below w.heap.size w w':=by
 have B0:=hide (Blk.new w 53 (meC 5 O U N L)).drew
 have W0:=hide (zak ((Below.refl w.heap.size w).alloc (Nat.le_refl _) (.cells (meC 5 O U N L) 53)))
 have HM:=hide hm
 have HS:=hide hS
 have K:∀ z,Blk z w.heap.size 53 (meC 5 O U N L)→z.cell? ⟨w.heap.size,0,none⟩=some (.int .i64 5)∧True∧True∧True∧True∧True:=fun z h=>⟨(zaQ HM.out h).1,trivial,trivial,trivial,trivial,trivial⟩
 have HMZ:=hide hmz
 have HP:=hide hP
 clear hm hS hmz hP
 go_enter Tryz.func26,Tryz.ntmps26
 go_wp2_with fail
 refine wp_region_held_drew (S:=fun z=>Blk z w.heap.size 53 (meC 5 O U N L)) (by kernel_rfl) B0.out (fun hHeld=>?_)
 refine rgV 0 (.agg (meC 5 O U N L)) (fun w' hSw=>zav (.tmp 1) rfl w.heap.size rfl HM.out hSw) ?_
 repeat refine rgA K ?_
 have W1:=hide W0.out
 have hsz:(w.alloc (.cells (meC 5 O U N L) 53)).drew.heap.size=w.heap.size+1:=by simp
 generalize (w.alloc (.cells (meC 5 O U N L) 53)).drew=wd at *
 have v3:=Blk.new wd 53 (zMe 0)
 rw [hsz] at v3
 have V3:=hide v3
 clear v3
 refine rgM (fun hHeld=>?_)
 have hz:(meC 5 O U N L).size=53:=zct HM.out
 have G3:=hide (zal (meC 5 O U N L).toList 0 _ _ (zae (wd.alloc (.cells (zMe 0) 53)) (some (w.heap.size+1))))
 have hSt:Blk ((wd.alloc (.cells (zMe 0) 53)).setCells (w.heap.size+1) 0 (meC 5 O U N L).toList) w.heap.size 53 (meC 5 O U N L):=hHeld.grown G3.out (by intro e;injection e;omega)
 refine zaF (i:=5) rfl (by kernel_rfl) (by rfl) (zaM 53 (.tmp 3) (.tmp 5) rfl (w.heap.size+1) rfl (meC 5 O U N L) rfl (by rw [hz];show _=some 53;kernel_rfl) (zdD HM.out) V3.out (by rw [hz];rfl)) hSt (fun hHeld=>?_)
 have V4:=hide (zcv V3.out (show (zMe 0).size=(meC 5 O U N L).size by rw [hz];rfl))
 have W2:=hide ((W1.out.alloc (by omega) (.cells (zMe 0) 53)).grown G3.out (by simp;omega) (fun q hq=>by injection hq with hq;omega))
 have S2:=hide hHeld
 clear V3 W1 W0 hSt G3 B0
 generalize ((wd.alloc (.cells (zMe 0) 53)).setCells (w.heap.size+1) 0 (meC 5 O U N L).toList)=w3 at *
 refine rgN ?_
 repeat refine rgA (F:=fun _=>True) (fun _ _=>trivial) ?_
 refine wpAnyH_done (by kernel_rfl) ?_ _
 obtain ⟨k0,q1,q2,q3,q4⟩:=zaQ HM.out S2.out
 have RP:=hide q4
 have LL:=hide (show L.length=2 from HM.out.f)
 clear hHeld K hz q1 q2 q3 q4
 have exec_part:∀ {o:Oper} {a:Act} {z:World} (p:Operand) (ho:o.op = .load 51 p) (b i:Nat) (hx:a.eval p = .pointer (some ⟨b,i,none⟩)) (h:z.rangeAt b i L),(execOp a.eval o).run Tryz.prog z = .ok (.value (.agg L.toArray)) z:=by
  intro o a z p ho b i hx h
  unfold execOp
  simp only [ho,hx,Instr.loadAt,Instr.sureAddr,Sem.run_bind,Sem.run_pure,Result.andThen_ok,run_loadVar_mid z b i 51 _ _ h Tryz.underlying51 rfl (by rw [LL.out];kernel_rfl)]
 go_wp2_with (with_reducible refine zab rfl (exec_part (.tmp 35) rfl w.heap.size 51 rfl RP.out) ?_)
 refine (HP.out w3 W2.out).mono ?_
 rintro e w4 ⟨rfl,hb⟩
 have W4:=hide (W2.out.trans (hb.mono W2.out.size))
 have S4:=hide (S2.out.over hb)
 have V5:=hide (V4.out.over hb)
 clear hb exec_part
 go_wp2_with (refine zbk rfl 51 (.tmp 38) (.tmp 34) rfl (w.heap.size+1) 51 rfl zFaL.toArray rfl (by show _=some 2;kernel_rfl) (zjD ziJ) (.int .i64 5::(O++(U++N))) L [] (by simpa [meC,meL] using V5.out) (by simp [HM.out.o,HM.out.u,HM.out.n]) (by rw [LL.out];rfl) ?_;intro w5 hb5 hg5;have K5:=hide (show Blk w5 (w.heap.size+1) 53 (meC 5 O U N zFaL) from by have h:=hb5;simpa [meC,meL] using h);have HG5:=hide hg5;clear hb5 hg5;refine Hid.out ?_)
 refine hide ?_
 have W5:=hide (W4.out.grown HG5.out W4.out.size (fun q hq=>by injection hq with hq;omega))
 have S5:=hide (S4.out.grown HG5.out (by intro e;injection e;omega))
 have k5:=(zaQ HM.out S5.out).1
 clear V5 S4 HG5 k0
 cases r
 ·go_wp2
  go_ret
  exact ⟨rfl,W5.out⟩
 go_wp2_with (first
  | (with_reducible refine zab rfl (zav (.tmp 3) rfl (w.heap.size+1) rfl HMZ.out K5.out) ?_)
  | (with_reducible refine zab rfl (zbQ (.tmp 43) rfl 5 rfl) ?_))
 refine (HS.out w5 W5.out).mono ?_
 rintro e w6 ⟨rfl,hb⟩
 have W6:=hide (W5.out.trans (hb.mono W5.out.size))
 clear hb
 go_wp2
 go_ret
 exact ⟨rfl,W6.out⟩
end
end Go.Proofs.YthgainmcnjldaaaGreatDoor
