/-
  What else UpdateSafe's and Right's contracts need: whether updates and messages are right. The conditions: they fit memory, the library's tables hold what their texts lay.
-/
import Derived.Test.YtplpglfjcieloaaGreatDoorKSBR
set_option linter.unusedVariables false
set_option linter.unusedSimpArgs false
namespace Go.Proofs.YtplpglfjcieloaaGreatDoor
open Tryz
section
open Go.RowKit
set_option maxRecDepth 20000 in
set_option maxHeartbeats 2000000 in
theorem rightnote_any (w:World) (lo hi:Nat) (x:NoP) (h:NoAt w lo hi x) (hh:hi≤w.heap.size) :
  Calls prog 24 #[.agg (noC x)] w fun e w'=>e = .returned (.bool (zsv x.c x.s x.dl))∧Below w.heap.size w w':=by
 obtain ⟨j,c1,c2⟩:=zid (zah (l:=noL x) (Blk.new w 40 (noC x)))
 simp only [Nat.zero_add] at j c1 c2
 have b:=hD ((Below.refl w.heap.size w).alloc lr (.cells (noC x) 40))
 obtain ⟨f,h1⟩:∃ r,decide (0≤x.c∧x.c≤255)=r:=⟨_,rfl⟩
 obtain ⟨d,h2⟩:∃ r,decide (0≤x.s∧x.s≤255)=r:=⟨_,rfl⟩
 have i:=hD h1
 have g:=hD h2
 have a:Hid (zsv x.c x.s x.dl=(f&&(d&&decide (x.dn≤4075)))):=hD (by subst h1 h2;unfold zsv;rw [h.row.len])
 clear h h1 h2
 go_enter func24,ntmps24
 go_wp2_with fail
 refine (zdM _ x.c 0 255).mono ?_
 rw [i.o]
 rintro e w1 ⟨rfl,rfl⟩
 cases f
 ·go_wp2
  go_ret
  exact ⟨by rw [a.o];rfl,b.o⟩
 go_wp2_with fail
 refine (zdM _ x.s 0 255).mono ?_
 rw [g.o]
 rintro e w1 ⟨rfl,rfl⟩
 cases d
 ·go_wp2
  go_ret
  exact ⟨by rw [a.o];rfl,b.o⟩
 by_cases m:((x.dn:Nat):Int)≤4075
 all_goals
  have k:Hid (zsv x.c x.s x.dl=decide (((x.dn:Nat):Int)≤4075)):=hD (by rw [a.o];simp only [Bool.true_and];exact decide_eq_decide.2 ⟨fun h=>by omega,fun h=>by omega⟩)
  go_wp2
  go_ret
  exact ⟨by rw [k.o];simp [m],b.o⟩
end
section
open Go.RowKit
theorem range_over {z z':World} {g i:Nat} {L:List Value} (h:z.rangeAt g i L) (hb:Below z.heap.size z z'):z'.rangeAt g i L:=fun j u hu=>by
 have h1:=h j u hu
 rw [hb.cell (World.block_lt_of_cell? _ _ h1)]
 exact h1
theorem built_upd0:prog.built 38 []=some zUpL.toArray:=by kernel_rfl
theorem exec_build_upd0 {o:Oper} {a:Act} {w:World} (b:o.op = .build 38 #[]):(execOp a.eval o).run prog w = .ok (.value (.agg zUpL.toArray)) w:=by
 unfold execOp
 simp only [b,List.map_toArray,List.map_nil,Sem.run_bind,run_build w _ _ _ built_upd0,Result.andThen_ok,Sem.run_pure]
set_option maxRecDepth 20000 in
set_option maxHeartbeats 1000000 in
theorem tells_gen (w:World) (U:List Value) (m:U.length=26) (E:Array Value) (k r2:Bool)
  (n:∀ z,Below w.heap.size w z→Calls prog 88 #[] z fun e z'=>e = .returned (.agg E)∧Below z.heap.size z z')
  (h1:∀ z,Below w.heap.size w z→Calls prog 40 #[.agg U.toArray,.agg E] z fun e z'=>e = .returned (.bool k)∧Below z.heap.size z z')
  (h2:∀ z,Below w.heap.size w z→Calls prog 40 #[.agg U.toArray,.agg zUpL.toArray] z fun e z'=>e = .returned (.bool r2)∧Below z.heap.size z z') :
  Calls prog 41 #[.agg U.toArray] w fun e w'=>e = .returned (.bool (k||r2))∧Below w.heap.size w w':=by
 have x:=hD (zah (l:=U) (Blk.new w 38 U.toArray))
 have q:=hD (zaj ((Below.refl w.heap.size w).alloc lr (.cells U.toArray 38)))
 have p:=hD m
 have t:=hD n
 have s:=hD h1
 have r:=hD h2
 have j:∀ z z',z.rangeAt w.heap.size 0 U→Below z.heap.size z z'→z'.rangeAt w.heap.size 0 U:=fun z z' h hb=>range_over h hb
 clear m n h1 h2
 go_enter func41,ntmps41
 go_wp2_with fail
 refine wp_region_held_drew (S:=fun z=>z.rangeAt w.heap.size 0 U) (by kernel_rfl) (range_over x.o (zaj (Below.refl _ _))) (fun a=>?_)
 refine rgV 0 (.agg U.toArray) (fun w' b=>zcZ (.tmp 1) rfl w.heap.size 0 rfl b p.o) ?_
 refine rgB (t.o _ q.o) (hb:=j) ?_
 intro wa a d
 have i:=hD (zaa q.o d lr)
 clear d
 refine rgB (s.o wa i.o) (hb:=j) ?_
 intro wb a c
 have g:=hD (i.o.trans (c.mono i.o.size))
 clear c i
 cases k
 ·repeat refine rgA (F:=fun _=>True) (fun _ _=>trivial) ?_
  refine rgV 4 (.agg U.toArray) (fun w' b=>zcZ (.tmp 1) rfl w.heap.size 0 rfl b p.o) ?_
  refine rgV 5 (.agg zUpL.toArray) (fun w' b=>exec_build_upd0 rfl) ?_
  refine rgB (r.o wb g.o) (hb:=j) ?_
  intro wc a f
  have v:=hD (g.o.trans (f.mono g.o.size))
  clear f
  repeat refine rgA (F:=fun _=>True) (fun _ _=>trivial) ?_
  refine wpAnyH_done (by kernel_rfl) ?_ _
  go_wp2
  go_ret
  exact ⟨rfl,v.o⟩
 ·repeat (first | refine rgA (F:=fun _=>True) (fun _ _=>trivial) ?_ | refine rgZ ?_)
  refine wpAnyH_done (by kernel_rfl) ?_ _
  go_wp2
  go_ret
  exact ⟨rfl,g.o⟩
set_option maxRecDepth 20000 in
set_option maxHeartbeats 1000000 in
theorem sameu_gen (w:World) (U a:List Value) (j:U.length=26) (f:a.length=26) (i h k:Bool)
  (l:∀ z,Below w.heap.size w z→Calls prog 40 #[.agg U.toArray,.agg a.toArray] z fun e z'=>e = .returned (.bool i)∧Below z.heap.size z z')
  (h1:∀ z,Below w.heap.size w z→Calls prog 41 #[.agg U.toArray] z fun e z'=>e = .returned (.bool h)∧Below z.heap.size z z')
  (h2:∀ z,Below w.heap.size w z→Calls prog 41 #[.agg a.toArray] z fun e z'=>e = .returned (.bool k)∧Below z.heap.size z z') :
  Calls prog 15 #[.agg U.toArray,.agg a.toArray] w fun e w'=>e = .returned (.bool (i||(h&&k)))∧Below w.heap.size w w':=by
 have d:=hD (Two.start w 38 U a (X:=U.toArray) (Y:=a.toArray) rfl rfl)
 have m:=hD j
 have c:=hD f
 have s:=hD l
 have r:=hD h1
 have p:=hD h2
 clear j f l h1 h2
 go_enter func15,ntmps15
 go_wp2_with (first
  | (with_reducible refine zac rfl (zcZ (.tmp 2) rfl w.heap.size 0 rfl d.o.x m.o) ?_)
  | (with_reducible refine zac rfl (zcZ (.tmp 3) rfl (w.heap.size+1) 0 rfl d.o.y c.o) ?_))
 refine (s.o _ d.o.bl).mono ?_
 rintro e n ⟨rfl,hb⟩
 have b:=hD (d.o.on hb)
 clear hb d
 cases i
 rotate_left
 ·go_wp2
  go_ret
  exact ⟨rfl,b.o.bl⟩
 go_wp2_with (with_reducible refine zac rfl (zcZ (.tmp 2) rfl w.heap.size 0 rfl b.o.x m.o) ?_)
 refine (r.o n b.o.bl).mono ?_
 rintro e q ⟨rfl,hb⟩
 have g:=hD (b.o.on hb)
 clear hb b
 cases h
 ·go_wp2
  go_ret
  exact ⟨rfl,g.o.bl⟩
 go_wp2_with (with_reducible refine zac rfl (zcZ (.tmp 3) rfl (w.heap.size+1) 0 rfl g.o.y c.o) ?_)
 refine (p.o q g.o.bl).mono ?_
 rintro e v ⟨rfl,hb⟩
 have t:=hD (g.o.on hb)
 clear hb g
 go_wp2
 go_ret
 exact ⟨rfl,t.o.bl⟩
end
section
open Go.RowKit
set_option maxRecDepth 20000 in
set_option maxHeartbeats 1000000 in
theorem right_2 (w:World) (L O U N F:List Value) (hm:MeOk O L N F) (g:MeOk O zUpL N F) (r rs:Bool)
  (H:∀ z,Below w.heap.size w z→Calls prog 7 #[.agg L.toArray] z fun e z'=>e = .returned (.bool r)∧Below z.heap.size z z')
  (E:∀ z,Below w.heap.size w z→Calls prog 6 #[.agg (meC 2 O zUpL N F),.agg (zMe 2)] z fun e z'=>e = .returned (.bool rs)∧Below z.heap.size z z') :
  Calls prog 8 #[.agg (meC 2 O L N F)] w fun e w'=>e = .returned (.bool (r&&rs))∧Below w.heap.size w w':=by
 have J:=hD (Blk.new w 44 (meC 2 O L N F)).drew
 have I:=hD (zaj ((Below.refl w.heap.size w).alloc lr (.cells (meC 2 O L N F) 44)))
 have d:=hD hm
 have HS:=hD E
 have K:∀ z,Blk z w.heap.size 44 (meC 2 O L N F)→z.cell? ⟨w.heap.size,0,none⟩=some (.int .i64 2)∧True∧True∧True∧True∧True:=fun z h=>⟨(zd0 d.o h).1,trivial,trivial,trivial,trivial,trivial⟩
 have C:=hD g
 have HP:=hD H
 clear hm E g H
 go_enter func8,ntmps8
 go_wp2_with fail
 refine wp_region_held_drew (S:=fun z=>Blk z w.heap.size 44 (meC 2 O L N F)) (by kernel_rfl) J.o (fun c=>?_)
 refine rgV 0 (.agg (meC 2 O L N F)) (fun w' A=>za3 (.tmp 1) rfl w.heap.size rfl d.o A) ?_
 repeat refine rgA K ?_
 have R:=hD I.o
 have x:(w.alloc (.cells (meC 2 O L N F) 44)).drew.heap.size=w.heap.size+1:=by simp
 generalize (w.alloc (.cells (meC 2 O L N F) 44)).drew=wd at *
 have D:=Blk.new wd 44 (zMe 0)
 rw [x] at D
 have B:=hD D
 clear D
 refine rgM (fun c=>?_)
 have s:(meC 2 O L N F).size=53:=zfI d.o
 have t:=hD (zai (meC 2 O L N F).toList 0 _ _ (zad (wd.alloc (.cells (zMe 0) 44)) (some (w.heap.size+1))))
 have j:Blk ((wd.alloc (.cells (zMe 0) 44)).setCells (w.heap.size+1) 0 (meC 2 O L N F).toList) w.heap.size 44 (meC 2 O L N F):=c.grown t.o (by intro e;injection e;omega)
 refine zau (i:=5) rfl (by kernel_rfl) (by rfl) (zbN 44 (.tmp 3) (.tmp 5) rfl (w.heap.size+1) rfl (meC 2 O L N F) rfl (by rw [s];show _=some 53;kernel_rfl) (zjh d.o) B.o (by rw [s];rfl)) j (fun c=>?_)
 have Y:=hD (zfL B.o (show (zMe 0).size=(meC 2 O L N F).size by rw [s];rfl))
 have v:=hD ((R.o.alloc (by omega) (.cells (zMe 0) 44)).grown t.o (by simp;omega) (fun q hq=>by injection hq with hq;omega))
 have T:=hD c
 clear B R I j t J
 generalize ((wd.alloc (.cells (zMe 0) 44)).setCells (w.heap.size+1) 0 (meC 2 O L N F).toList)=w3 at *
 refine rgN ?_
 repeat refine rgA (F:=fun _=>True) (fun _ _=>trivial) ?_
 refine wpAnyH_done (by kernel_rfl) ?_ _
 obtain ⟨k0,q1,Q,q3,q4⟩:=zd0 d.o T.o
 have Z:=hD Q
 have W:=hD (show L.length=26 from d.o.u)
 clear c K s q1 Q q3 q4
 have exec_part:∀ {o:Oper} {a:Act} {z:World} (p:Operand) (X:o.op = .load 38 p) (b i:Nat) (hx:a.eval p = .pointer (some ⟨b,i,none⟩)) (h:z.rangeAt b i L),(execOp a.eval o).run prog z = .ok (.value (.agg L.toArray)) z:=by
  intro o a z p X b i hx h
  unfold execOp
  simp only [X,hx,Instr.loadAt,Instr.sureAddr,Sem.run_bind,Sem.run_pure,Result.andThen_ok,run_loadVar_mid z b i 38 _ _ h underlying38 rfl (by rw [W.o];kernel_rfl)]
 go_wp2_with (with_reducible refine zac rfl (exec_part (.tmp 21) rfl w.heap.size 22 rfl Z.o) ?_)
 refine (HP.o w3 v.o).mono ?_
 rintro e w4 ⟨rfl,hb⟩
 have P:=hD (v.o.trans (hb.mono v.o.size))
 have M:=hD (T.o.over hb)
 have V:=hD (Y.o.over hb)
 clear hb exec_part
 go_wp2_with (refine zbY rfl 38 (.tmp 24) (.tmp 20) rfl (w.heap.size+1) 22 rfl zUpL.toArray rfl (by show _=some 26;kernel_rfl) (zup zkO) (.int .i64 2::O) L (N++F) (by simpa [meC,meL] using V.o) (by simp [d.o.o,d.o.u,d.o.n]) (by rw [W.o];rfl) ?_;intro G k l;have K5:=hD (show Blk G (w.heap.size+1) 44 (meC 2 O zUpL N F) from by have h:=k;simpa [meC,meL] using h);have f:=hD l;clear k l;refine Hid.o ?_)
 refine hD ?_
 have m:=hD (P.o.grown f.o P.o.size (fun q hq=>by injection hq with hq;omega))
 have S5:=hD (M.o.grown f.o (by intro e;injection e;omega))
 have k5:=(zd0 d.o S5.o).1
 clear V M f k0
 cases r
 ·go_wp2
  go_ret
  exact ⟨rfl,m.o⟩
 go_wp2_with (first
  | (with_reducible refine zac rfl (za3 (.tmp 3) rfl (w.heap.size+1) rfl C.o K5.o) ?_)
  | (with_reducible refine zac rfl (zd7 (.tmp 43) rfl 2 rfl) ?_))
 refine (HS.o G m.o).mono ?_
 rintro e w6 ⟨rfl,hb⟩
 have W6:=hD (m.o.trans (hb.mono m.o.size))
 clear hb
 go_wp2
 go_ret
 exact ⟨rfl,W6.o⟩
set_option maxRecDepth 20000 in
set_option maxHeartbeats 1000000 in
theorem right_3 (w:World) (L O U N F:List Value) (hm:MeOk O U L F) (g:MeOk O U zNoL F) (r rs:Bool)
  (H:∀ z,Below w.heap.size w z→Calls prog 24 #[.agg L.toArray] z fun e z'=>e = .returned (.bool r)∧Below z.heap.size z z')
  (E:∀ z,Below w.heap.size w z→Calls prog 6 #[.agg (meC 3 O U zNoL F),.agg (zMe 3)] z fun e z'=>e = .returned (.bool rs)∧Below z.heap.size z z') :
  Calls prog 8 #[.agg (meC 3 O U L F)] w fun e w'=>e = .returned (.bool (r&&rs))∧Below w.heap.size w w':=by
 have J:=hD (Blk.new w 44 (meC 3 O U L F)).drew
 have I:=hD (zaj ((Below.refl w.heap.size w).alloc lr (.cells (meC 3 O U L F) 44)))
 have d:=hD hm
 have HS:=hD E
 have K:∀ z,Blk z w.heap.size 44 (meC 3 O U L F)→z.cell? ⟨w.heap.size,0,none⟩=some (.int .i64 3)∧True∧True∧True∧True∧True:=fun z h=>⟨(zd0 d.o h).1,trivial,trivial,trivial,trivial,trivial⟩
 have C:=hD g
 have HP:=hD H
 clear hm E g H
 go_enter func8,ntmps8
 go_wp2_with fail
 refine wp_region_held_drew (S:=fun z=>Blk z w.heap.size 44 (meC 3 O U L F)) (by kernel_rfl) J.o (fun c=>?_)
 refine rgV 0 (.agg (meC 3 O U L F)) (fun w' A=>za3 (.tmp 1) rfl w.heap.size rfl d.o A) ?_
 repeat refine rgA K ?_
 have R:=hD I.o
 have x:(w.alloc (.cells (meC 3 O U L F) 44)).drew.heap.size=w.heap.size+1:=by simp
 generalize (w.alloc (.cells (meC 3 O U L F) 44)).drew=wd at *
 have D:=Blk.new wd 44 (zMe 0)
 rw [x] at D
 have B:=hD D
 clear D
 refine rgM (fun c=>?_)
 have s:(meC 3 O U L F).size=53:=zfI d.o
 have t:=hD (zai (meC 3 O U L F).toList 0 _ _ (zad (wd.alloc (.cells (zMe 0) 44)) (some (w.heap.size+1))))
 have j:Blk ((wd.alloc (.cells (zMe 0) 44)).setCells (w.heap.size+1) 0 (meC 3 O U L F).toList) w.heap.size 44 (meC 3 O U L F):=c.grown t.o (by intro e;injection e;omega)
 refine zau (i:=5) rfl (by kernel_rfl) (by rfl) (zbN 44 (.tmp 3) (.tmp 5) rfl (w.heap.size+1) rfl (meC 3 O U L F) rfl (by rw [s];show _=some 53;kernel_rfl) (zjh d.o) B.o (by rw [s];rfl)) j (fun c=>?_)
 have Y:=hD (zfL B.o (show (zMe 0).size=(meC 3 O U L F).size by rw [s];rfl))
 have v:=hD ((R.o.alloc (by omega) (.cells (zMe 0) 44)).grown t.o (by simp;omega) (fun q hq=>by injection hq with hq;omega))
 have T:=hD c
 clear B R I j t J
 generalize ((wd.alloc (.cells (zMe 0) 44)).setCells (w.heap.size+1) 0 (meC 3 O U L F).toList)=w3 at *
 refine rgN ?_
 repeat refine rgA (F:=fun _=>True) (fun _ _=>trivial) ?_
 refine wpAnyH_done (by kernel_rfl) ?_ _
 obtain ⟨k0,q1,q2,Q,q4⟩:=zd0 d.o T.o
 have Z:=hD Q
 have W:=hD (show L.length=3 from d.o.n)
 clear c K s q1 q2 Q q4
 have exec_part:∀ {o:Oper} {a:Act} {z:World} (p:Operand) (X:o.op = .load 40 p) (b i:Nat) (hx:a.eval p = .pointer (some ⟨b,i,none⟩)) (h:z.rangeAt b i L),(execOp a.eval o).run prog z = .ok (.value (.agg L.toArray)) z:=by
  intro o a z p X b i hx h
  unfold execOp
  simp only [X,hx,Instr.loadAt,Instr.sureAddr,Sem.run_bind,Sem.run_pure,Result.andThen_ok,run_loadVar_mid z b i 40 _ _ h underlying40 rfl (by rw [W.o];kernel_rfl)]
 go_wp2_with (with_reducible refine zac rfl (exec_part (.tmp 28) rfl w.heap.size 48 rfl Z.o) ?_)
 refine (HP.o w3 v.o).mono ?_
 rintro e w4 ⟨rfl,hb⟩
 have P:=hD (v.o.trans (hb.mono v.o.size))
 have M:=hD (T.o.over hb)
 have V:=hD (Y.o.over hb)
 clear hb exec_part
 go_wp2_with (refine zbY rfl 40 (.tmp 31) (.tmp 27) rfl (w.heap.size+1) 48 rfl zNoL.toArray rfl (by show _=some 3;kernel_rfl) (zup zkQ) (.int .i64 3::(O++U)) L F (by simpa [meC,meL] using V.o) (by simp [d.o.o,d.o.u,d.o.n]) (by rw [W.o];rfl) ?_;intro G k l;have K5:=hD (show Blk G (w.heap.size+1) 44 (meC 3 O U zNoL F) from by have h:=k;simpa [meC,meL] using h);have f:=hD l;clear k l;refine Hid.o ?_)
 refine hD ?_
 have m:=hD (P.o.grown f.o P.o.size (fun q hq=>by injection hq with hq;omega))
 have S5:=hD (M.o.grown f.o (by intro e;injection e;omega))
 have k5:=(zd0 d.o S5.o).1
 clear V M f k0
 cases r
 ·go_wp2
  go_ret
  exact ⟨rfl,m.o⟩
 go_wp2_with (first
  | (with_reducible refine zac rfl (za3 (.tmp 3) rfl (w.heap.size+1) rfl C.o K5.o) ?_)
  | (with_reducible refine zac rfl (zd7 (.tmp 43) rfl 3 rfl) ?_))
 refine (HS.o G m.o).mono ?_
 rintro e w6 ⟨rfl,hb⟩
 have W6:=hD (m.o.trans (hb.mono m.o.size))
 clear hb
 go_wp2
 go_ret
 exact ⟨rfl,W6.o⟩
set_option maxRecDepth 20000 in
set_option maxHeartbeats 1000000 in
theorem right_5 (w:World) (L O U N F:List Value) (hm:MeOk O U N L) (j:MeOk O U N zFaL) (r rs:Bool)
  (I:∀ z,Below w.heap.size w z→Calls prog 25 #[.agg L.toArray] z fun e z'=>e = .returned (.bool r)∧Below z.heap.size z z')
  (G:∀ z,Below w.heap.size w z→Calls prog 6 #[.agg (meC 5 O U N zFaL),.agg (zMe 5)] z fun e z'=>e = .returned (.bool rs)∧Below z.heap.size z z') :
  Calls prog 8 #[.agg (meC 5 O U N L)] w fun e w'=>e = .returned (.bool (r&&rs))∧Below w.heap.size w w':=by
 have M:=hD (Blk.new w 44 (meC 5 O U N L)).drew
 have J:=hD (zaj ((Below.refl w.heap.size w).alloc lr (.cells (meC 5 O U N L) 44)))
 have d:=hD hm
 have HS:=hD G
 have K:∀ z,Blk z w.heap.size 44 (meC 5 O U N L)→z.cell? ⟨w.heap.size,0,none⟩=some (.int .i64 5)∧True∧True∧True∧True∧True:=fun z h=>⟨(zd0 d.o h).1,trivial,trivial,trivial,trivial,trivial⟩
 have D:=hD j
 have HP:=hD I
 clear hm G j I
 go_enter func8,ntmps8
 go_wp2_with fail
 refine wp_region_held_drew (S:=fun z=>Blk z w.heap.size 44 (meC 5 O U N L)) (by kernel_rfl) M.o (fun c=>?_)
 refine rgV 0 (.agg (meC 5 O U N L)) (fun w' B=>za3 (.tmp 1) rfl w.heap.size rfl d.o B) ?_
 repeat refine rgA K ?_
 have T:=hD J.o
 have A:(w.alloc (.cells (meC 5 O U N L) 44)).drew.heap.size=w.heap.size+1:=by simp
 generalize (w.alloc (.cells (meC 5 O U N L) 44)).drew=wd at *
 have E:=Blk.new wd 44 (zMe 0)
 rw [A] at E
 have C:=hD E
 clear E
 refine rgM (fun c=>?_)
 have t:(meC 5 O U N L).size=53:=zfI d.o
 have v:=hD (zai (meC 5 O U N L).toList 0 _ _ (zad (wd.alloc (.cells (zMe 0) 44)) (some (w.heap.size+1))))
 have k:Blk ((wd.alloc (.cells (zMe 0) 44)).setCells (w.heap.size+1) 0 (meC 5 O U N L).toList) w.heap.size 44 (meC 5 O U N L):=c.grown v.o (by intro e;injection e;omega)
 refine zau (i:=5) rfl (by kernel_rfl) (by rfl) (zbN 44 (.tmp 3) (.tmp 5) rfl (w.heap.size+1) rfl (meC 5 O U N L) rfl (by rw [t];show _=some 53;kernel_rfl) (zjh d.o) C.o (by rw [t];rfl)) k (fun c=>?_)
 have Z:=hD (zfL C.o (show (zMe 0).size=(meC 5 O U N L).size by rw [t];rfl))
 have x:=hD ((T.o.alloc (by omega) (.cells (zMe 0) 44)).grown v.o (by simp;omega) (fun q hq=>by injection hq with hq;omega))
 have V:=hD c
 clear C T J k v M
 generalize ((wd.alloc (.cells (zMe 0) 44)).setCells (w.heap.size+1) 0 (meC 5 O U N L).toList)=w3 at *
 refine rgN ?_
 repeat refine rgA (F:=fun _=>True) (fun _ _=>trivial) ?_
 refine wpAnyH_done (by kernel_rfl) ?_ _
 obtain ⟨k0,q1,q2,q3,R⟩:=zd0 d.o V.o
 have RP:=hD R
 have X:=hD (show L.length=2 from d.o.f)
 clear c K t q1 q2 q3 R
 have exec_part:∀ {o:Oper} {a:Act} {z:World} (p:Operand) (Y:o.op = .load 42 p) (b i:Nat) (hx:a.eval p = .pointer (some ⟨b,i,none⟩)) (h:z.rangeAt b i L),(execOp a.eval o).run prog z = .ok (.value (.agg L.toArray)) z:=by
  intro o a z p Y b i hx h
  unfold execOp
  simp only [Y,hx,Instr.loadAt,Instr.sureAddr,Sem.run_bind,Sem.run_pure,Result.andThen_ok,run_loadVar_mid z b i 42 _ _ h underlying42 rfl (by rw [X.o];kernel_rfl)]
 go_wp2_with (with_reducible refine zac rfl (exec_part (.tmp 35) rfl w.heap.size 51 rfl RP.o) ?_)
 refine (HP.o w3 x.o).mono ?_
 rintro e w4 ⟨rfl,hb⟩
 have Q:=hD (x.o.trans (hb.mono x.o.size))
 have P:=hD (V.o.over hb)
 have W:=hD (Z.o.over hb)
 clear hb exec_part
 go_wp2_with (refine zbY rfl 42 (.tmp 38) (.tmp 34) rfl (w.heap.size+1) 51 rfl zFaL.toArray rfl (by show _=some 2;kernel_rfl) (zup zkR) (.int .i64 5::(O++(U++N))) L [] (by simpa [meC,meL] using W.o) (by simp [d.o.o,d.o.u,d.o.n]) (by rw [X.o];rfl) ?_;intro H l m;have K5:=hD (show Blk H (w.heap.size+1) 44 (meC 5 O U N zFaL) from by have h:=l;simpa [meC,meL] using h);have g:=hD m;clear l m;refine Hid.o ?_)
 refine hD ?_
 have s:=hD (Q.o.grown g.o Q.o.size (fun q hq=>by injection hq with hq;omega))
 have S5:=hD (P.o.grown g.o (by intro e;injection e;omega))
 have k5:=(zd0 d.o S5.o).1
 clear W P g k0
 cases r
 ·go_wp2
  go_ret
  exact ⟨rfl,s.o⟩
 go_wp2_with (first
  | (with_reducible refine zac rfl (za3 (.tmp 3) rfl (w.heap.size+1) rfl D.o K5.o) ?_)
  | (with_reducible refine zac rfl (zd7 (.tmp 43) rfl 5 rfl) ?_))
 refine (HS.o H s.o).mono ?_
 rintro e w6 ⟨rfl,hb⟩
 have W6:=hD (s.o.trans (hb.mono s.o.size))
 clear hb
 go_wp2
 go_ret
 exact ⟨rfl,W6.o⟩
end
section
open Go.RowKit
section
variable {w y z:World} {lo hi:Nat} {u:UpP}
theorem UpS.rng (h:UpS w y lo hi u):y.rangeAt w.heap.size 0 (updL u):=zah (l:=updL u) h.b
theorem UpS.ratt (h:UpS w y lo hi u):y.rangeAt w.heap.size 0 (attL u.at_):=zrM h.rng
end
end
section
open Go.RowKit
theorem rightre_any (w:World) (lo hi:Nat) (x:TbP) (h:mTb w lo hi x) (hw:wTb x) (hh:hi≤w.heap.size) (a:FitT x) (n:za1 w) :
  Calls prog 19 #[.agg (tbC x)] w fun e w'=>e = .returned (.bool (ziU x.tb))∧Below w.heap.size w w':=by
 have b:=hD (TbS.start h hw hh)
 have q:=hD (n.below b.o.bl)
 have i:=hD a
 have g:=hD (zgq hw)
 have k:=hD (show hi≤(w.alloc (.cells (tbC x) 104)).heap.size from Nat.le_trans hh b.o.bl.size)
 have p:=hD b.o.rng
 unfold ziU
 obtain ⟨s,h1⟩:∃ r,zbL true x.tb=r:=⟨_,rfl⟩
 obtain ⟨v,h2⟩:∃ r,hasT x.tb=r:=⟨_,rfl⟩
 have A:=hD h1
 have t:=hD h2
 rw [h1,h2]
 clear h hw a n h1 h2
 go_enter func19,ntmps19
 go_wp2_with ((with_reducible refine zaH ?_ (.tmp 1) rfl w.heap.size 0 rfl x p.o g.o ?_);· rfl)
 refine (zkr _ lo hi x true b.o.m b.o.sz k.o i.o q.o).mono ?_
 rw [A.o]
 rintro e w1 ⟨rfl,c⟩
 have d:=hD (b.o.on c)
 have l:=hD d.o.rng
 have j:=hD (Nat.le_trans k.o c.size)
 clear c b q p k
 cases s
 ·go_wp2
  go_ret
  exact ⟨rfl,d.o.bl⟩
 ·go_wp2_with ((with_reducible refine zaH ?_ (.tmp 1) rfl w.heap.size 0 rfl x l.o g.o ?_);· rfl)
  refine (zuH w1 lo hi x d.o.m d.o.sz j.o i.o).mono ?_
  rw [t.o]
  rintro e C ⟨rfl,f⟩
  have B:=hD (d.o.on f)
  clear f
  go_wp2
  go_ret
  exact ⟨by cases v <;> rfl,B.o.bl⟩
theorem rightun_any (w:World) (lo hi:Nat) (x:TbP) (h:mTb w lo hi x) (hw:wTb x) (hh:hi≤w.heap.size) (a:FitT x) (i:za1 w) :
  Calls prog 20 #[.agg (tbC x)] w fun e w'=>e = .returned (.bool (zbL false x.tb))∧Below w.heap.size w w':=by
 have b:=hD (TbS.start h hw hh)
 have j:=hD (i.below b.o.bl)
 have d:=hD a
 have f:=hD (zgq hw)
 have k:=hD (show hi≤(w.alloc (.cells (tbC x) 104)).heap.size from Nat.le_trans hh b.o.bl.size)
 have g:=hD b.o.rng
 obtain ⟨p,h1⟩:∃ r,zbL false x.tb=r:=⟨_,rfl⟩
 have l:=hD h1
 rw [h1]
 clear h hw a i h1
 go_enter func20,ntmps20
 go_wp2_with ((with_reducible refine zaH ?_ (.tmp 1) rfl w.heap.size 0 rfl x g.o f.o ?_);· rfl)
 refine (zkr _ lo hi x false b.o.m b.o.sz k.o d.o j.o).mono ?_
 rw [l.o]
 rintro e w1 ⟨rfl,c⟩
 have n:=hD (b.o.on c)
 clear c b j g k
 go_wp2
 go_ret
 exact ⟨rfl,n.o.bl⟩
end
section
open Go.RowKit
theorem none_ats:zgg.ats=zeo:=rfl
end
section
open Go.RowKit
/-- a table's judge,by what its opposite answers -/
def Judge (F:FuncId) (ok:Tb→Bool):Prop:=∀ (w:World) (lo hi:Nat) (x:TbP),mTb w lo hi x→wTb x→hi≤w.heap.size→FitT x→za1 w→∀ g:Nat,Blk w g 65 #[.func (.func F) #[] #[]] →
 Calls prog 49 #[.agg (tbC x),.pointer (some ⟨g,0,none⟩)] w fun e w'=>e = .returned (.bool (!ok x.tb))∧Below w.heap.size w w'
set_option maxRecDepth 20000 in
theorem judge_re:Judge 19 (ziU):=by
 intro w lo hi x hm hw hh a h g hb
 have b:=hD (TbS.start hm hw hh)
 have l:=hD (h.below b.o.bl)
 have p:(w.alloc (.cells (tbC x) 104)).cell? ⟨g,0,none⟩=some (.func (.func 19) #[] #[]):=(hb.alloc _).cell 0
 have j:=hD b.o.rng
 have d:=hD (zgq hw)
 have c:=hD a
 have n:=hD (show hi≤(w.alloc (.cells (tbC x) 104)).heap.size from Nat.le_trans hh b.o.bl.size)
 obtain ⟨r,hr⟩:∃ r,ziU x.tb=r:=⟨_,rfl⟩
 have i:=hD hr
 rw [hr]
 clear hm hb hr hw a h
 go_enter func49,ntmps49
 go_wp2_with ((with_reducible refine zaH ?_ (.tmp 2) rfl w.heap.size 0 rfl x j.o d.o ?_);· rfl)
 refine (rightre_any _ lo hi x b.o.m b.o.sz n.o c.o l.o).mono ?_
 rw [i.o]
 rintro e w1 ⟨rfl,f⟩
 have k:=hD (b.o.on f)
 go_wp2
 go_ret
 exact ⟨rfl,k.o.bl⟩
set_option maxRecDepth 20000 in
theorem judge_un:Judge 20 (zbL false):=by
 intro w lo hi x hm hw hh a h g hb
 have b:=hD (TbS.start hm hw hh)
 have l:=hD (h.below b.o.bl)
 have p:(w.alloc (.cells (tbC x) 104)).cell? ⟨g,0,none⟩=some (.func (.func 20) #[] #[]):=(hb.alloc _).cell 0
 have j:=hD b.o.rng
 have d:=hD (zgq hw)
 have c:=hD a
 have n:=hD (show hi≤(w.alloc (.cells (tbC x) 104)).heap.size from Nat.le_trans hh b.o.bl.size)
 obtain ⟨r,hr⟩:∃ r,zbL false x.tb=r:=⟨_,rfl⟩
 have i:=hD hr
 rw [hr]
 clear hm hb hr hw a h
 go_enter func49,ntmps49
 go_wp2_with ((with_reducible refine zaH ?_ (.tmp 2) rfl w.heap.size 0 rfl x j.o d.o ?_);· rfl)
 refine (rightun_any _ lo hi x b.o.m b.o.sz n.o c.o l.o).mono ?_
 rw [i.o]
 rintro e w1 ⟨rfl,f⟩
 have k:=hD (b.o.on f)
 go_wp2
 go_ret
 exact ⟨rfl,k.o.bl⟩
section
variable {F:FuncId} {ok:Tb→Bool}
set_option maxRecDepth 20000 in
set_option maxHeartbeats 1000000 in
theorem indexB_any (p:Judge F ok) (w:World) (lo hi:Nat) (A:Option Addr) (n c:Nat) (l:List TbP) (h:RowE tbL mTb wTb w lo hi A n l) (hh:hi≤w.heap.size) (hn:n≤1000000000000) (f:∀ x∈l,FitT x) (M:za1 w) (g:Nat) (hb:Blk w g 65 #[.func (.func F) #[] #[]]) :
  Calls prog 98 #[.slice A n c,.func (.func 49) #[] #[.pointer (some ⟨g,0,none⟩)]] w fun e w'=>∃ r:Int,e = .returned (.int .i64 r)∧decide (0≤r)=(!(l.map TbP.tb).all ok)∧Below w.heap.size w w':=by
 have H:=hD h
 have Q:=hD h.len
 have P:=hD hb
 have K:=hD f
 have E:=hD M
 have T:=hD p
 clear h hb f M p
 go_enter func98,ntmps98
 go_wp2_with fail
 go_loopw [8] (fun i wr=>∃ k:Nat,k≤n∧i = .int .i64 k∧(∀ x∈l.take k,ok x.tb=true)∧Below w.heap.size w wr) (fun i _=>n-(intOf i).toNat)
 case atStart=>exact ⟨0,Nat.zero_le _,rfl,(fun x hx=>by simp at hx),Below.refl _ _⟩
 case round =>
  obtain ⟨k,X,rfl,d,j⟩:=hrel
  have O:=hD d
  have m:=hD j
  clear d j
  by_cases L:k<n
  ·have q:=hD (H.o.below mkTb (m.o.mono hh))
   obtain ⟨b,o,x,rfl,_,_,hx,B⟩:=q.o.row.at_ (sz:=21) (fun y hy=>zrQ (q.o.sz y hy)) L
   have a:=List.mem_of_getElem? hx
   have R:=hD (q.o.mem x a)
   have s:=hD (q.o.sz x a)
   have J:=hD (zgq s.o)
   have V:=hD (K.o x a)
   have S:=hD (E.o.below m.o)
   have N:=hD hx
   have G:=hD B
   have W:=hD (P.o.over m.o)
   have D:=Nat.le_trans hh m.o.size
   obtain ⟨r,hr⟩:∃ r,ok x.tb=r:=⟨_,rfl⟩
   have C:=hD hr
   have U:((k:Nat):Int)<(n:Int):=by omega
   clear hx B a hr q
   go_wp2_with ((with_reducible refine zaH ?_ (.tmp 14) rfl b (o+k*21) rfl x G.o J.o ?_);· rfl)
   refine (T.o wr lo hi x R.o s.o D V.o S.o g W.o).mono ?_
   rw [C.o]
   rintro e w1 ⟨rfl,v⟩
   have t:=hD (zaa m.o v lr)
   clear v
   cases r
   ·have p:Hid ((l.map TbP.tb).all ok=false):=hD (List.all_eq_false.2 ⟨x.tb,List.mem_map.2 ⟨x,List.mem_of_getElem? N.o,rfl⟩,by rw [C.o];decide⟩)
    go_wp2_with fail
    go_ret
    exact ⟨_,rfl,by rw [p.o];exact decide_eq_true (by omega),t.o⟩
   ·have I:Hid (∀ y∈l.take (k+1),ok y.tb=true):=hD (by
     intro y hy
     rw [List.take_add_one,N.o] at hy
     rcases List.mem_append.1 hy with hy | hy
     ·exact O.o y hy
     ·rw [show y=x by simpa using hy];exact C.o)
    go_wp2_with fail
    go_roundw
    case rel=>exact ⟨k+1,by omega,by go_num,I.o,t.o⟩
    case measure=>simp [intOf];omega
  ·obtain rfl:k=n:=by omega
   have p:Hid ((l.map TbP.tb).all ok=true):=hD (by
    rw [List.all_eq_true]
    intro y hy
    obtain ⟨x,hx,rfl⟩:=List.mem_map.1 hy
    exact O.o x (by rw [List.take_of_length_le (by rw [Q.o];exact lr)];exact hx))
   go_wp2
   go_ret
   exact ⟨_,rfl,by rw [p.o];rfl,m.o⟩
theorem containsB_any (d:Judge F ok) (w:World) (lo hi:Nat) (A:Option Addr) (n c:Nat) (l:List TbP) (h:RowE tbL mTb wTb w lo hi A n l) (hh:hi≤w.heap.size) (hn:n≤1000000000000) (a:∀ x∈l,FitT x) (f:za1 w) (g:Nat) (hb:Blk w g 65 #[.func (.func F) #[] #[]]) :
  Calls prog 50 #[.slice A n c,.func (.func 49) #[] #[.pointer (some ⟨g,0,none⟩)]] w fun e w'=>e = .returned (.bool (!(l.map TbP.tb).all ok))∧Below w.heap.size w w':=by
 have k:=hD (indexB_any d w lo hi A n c l h hh hn a f g hb)
 obtain ⟨q,hq⟩:∃ q,(l.map TbP.tb).all ok=q:=⟨_,rfl⟩
 have j:=hD hq
 rw [hq]
 clear h hb hq d a f
 go_enter func50,ntmps50
 go_wp2_with fail
 refine k.o.mono ?_
 rintro e w1 ⟨r,rfl,hr,b⟩
 rw [j.o] at hr
 cases q
 ·have i:(0:Int)≤r:=of_decide_eq_true hr
  clear hr
  go_wp2
  go_ret
  exact ⟨rfl,b⟩
 ·have i:¬ (0:Int)≤r:=of_decide_eq_false hr
  clear hr
  go_wp2
  go_ret
  exact ⟨by show Ending.returned (.bool (decide (0≤r)))=_;rw [decide_eq_false (by omega)];rfl,b⟩
theorem fewB_any (j:Judge F ok) (w:World) (lo hi:Nat) (A:Option Addr) (n c:Nat) (l:List TbP) (h:RowE tbL mTb wTb w lo hi A n l) (hh:hi≤w.heap.size) (a:∀ x∈l,FitT x) (k:za1 w) :
  Calls prog 18 #[.slice A n c,.func (.func F) #[] #[]] w fun e w'=>e = .returned (.bool (fewT ok (l.map TbP.tb)))∧Below w.heap.size w w':=by
 unfold fewT
 rw [List.length_map,h.len]
 have H:Hid (RowE tbL mTb wTb (w.alloc (.cells #[.func (.func F) #[] #[]] 65)) lo hi A n l):=hD (h.keep mkTb fun p _ hp=>World.cell?_alloc_lt w _ p (by omega))
 have s:Hid (Blk (w.alloc (.cells #[.func (.func F) #[] #[]] 65)) w.heap.size 65 #[.func (.func F) #[] #[]]):=hD (Blk.new w _ _)
 have i:Hid (Below w.heap.size w (w.alloc (.cells #[.func (.func F) #[] #[]] 65))):=hD ((Below.refl _ _).alloc lr _)
 have f:hi≤(w.alloc (.cells #[.func (.func F) #[] #[]] 65)).heap.size:=by simp;omega
 have v:=hD (k.below i.o)
 have d:=hD a
 have m:=hD j
 clear h a k j
 by_cases hn:n≤1
 ·have g:(n:Int)≤1:=by omega
  rw [decide_eq_true hn,Bool.true_and]
  obtain ⟨r,hr⟩:∃ r,(l.map TbP.tb).all ok=r:=⟨_,rfl⟩
  have q:=hD hr
  rw [hr]
  clear hr
  go_enter func18,ntmps18
  go_wp2_with fail
  refine (containsB_any m.o _ lo hi A n c l H.o f (by omega) d.o v.o w.heap.size s.o).mono ?_
  rw [q.o]
  rintro e w1 ⟨rfl,b⟩
  have t:=hD (zaa i.o b (by simp))
  clear b
  go_wp2
  go_ret
  exact ⟨by cases r <;> rfl,t.o⟩
 ·have g:¬ (n:Int)≤1:=by omega
  rw [decide_eq_false hn,Bool.false_and]
  go_enter func18,ntmps18
  go_wp2
  go_ret
  exact ⟨rfl,i.o⟩
end
set_option maxRecDepth 20000 in
set_option maxHeartbeats 2000000 in
theorem rightu_1 (w:World) (lo hi:Nat) (u:UpP) (h:UpAt w lo hi u) (hh:hi≤w.heap.size) (b:FitU u) (j:za1 w) (l:Hid (zcm u.at_.ats=false)) :
  Calls prog 7 #[.agg (updC u)] w fun e w'=>e = .returned (.bool false)∧Below w.heap.size w w':=by
 have g:=hD (UpS.start h hh)
 have m:Hid (UgS w (w.alloc (.cells (updC u) 38)) lo hi u):=hD ⟨g.o,j.below g.o.bl⟩
 have k:=hD b
 have d:=hD h.ob
 clear h b j g
 go_enter func7,ntmps7
 go_wp2_with fail
 refine wp_region_held_drew (S:=fun z=>UgS w z lo hi u) (by kernel_rfl) m.o.drew (fun a=>?_)
 refine rgT 0 ?_
 refine rgV 1 (.agg (attC u.at_)) (fun w' c=>zcu (.tmp 3) rfl w.heap.size 0 rfl c.s.ratt d.o) ?_
 refine zal (i:=2) rfl (by kernel_rfl) (by rfl) (znT _ lo hi u.at_ a.s.at_.at_ a.s.here) (fun w=>by kernel_rfl) ?_
 rw [l.o]
 rintro e w1 ⟨rfl,f⟩
 refine ⟨_,rfl,a.on f,fun a=>?_⟩
 refine rgN ?_
 refine rgT 3 ?_
 refine rgS 4 ?_
 refine rgS 5 ?_
 refine rgS 6 ?_
 refine rgT 7 ?_
 refine rgT 8 ?_
 refine rgS 9 ?_
 refine rgS 10 ?_
 refine rgS 11 ?_
 refine rgT 12 ?_
 refine rgT 13 ?_
 refine rgS 14 ?_
 refine rgS 15 ?_
 refine rgS 16 ?_
 refine rgS 17 ?_
 refine rgS 18 ?_
 refine rgS 19 ?_
 refine rgS 20 ?_
 refine rgS 21 ?_
 refine rgS 22 ?_
 refine rgS 23 ?_
 refine rgT 24 ?_
 refine rgT 25 ?_
 refine wpAnyH_done (by kernel_rfl) ?_ _
 go_wp2_with fail
 go_ret
 exact ⟨rfl,a.s.bl⟩
set_option maxRecDepth 20000 in
set_option maxHeartbeats 2000000 in
theorem rightu_2 (w:World) (lo hi:Nat) (u:UpP) (h:UpAt w lo hi u) (hh:hi≤w.heap.size) (b:FitU u) (l:za1 w) (p:Hid (zcm u.at_.ats=true)) (m:Hid (fewT ziU (u.re.map TbP.tb)=false)) :
  Calls prog 7 #[.agg (updC u)] w fun e w'=>e = .returned (.bool false)∧Below w.heap.size w w':=by
 have k:=hD (UpS.start h hh)
 have q:Hid (UgS w (w.alloc (.cells (updC u) 38)) lo hi u):=hD ⟨k.o,l.below k.o.bl⟩
 have d:=hD b
 have f:=hD h.ob
 clear h b l k
 go_enter func7,ntmps7
 go_wp2_with fail
 refine wp_region_held_drew (S:=fun z=>UgS w z lo hi u) (by kernel_rfl) q.o.drew (fun a=>?_)
 refine rgT 0 ?_
 refine rgV 1 (.agg (attC u.at_)) (fun w' c=>zcu (.tmp 3) rfl w.heap.size 0 rfl c.s.ratt f.o) ?_
 refine zal (i:=2) rfl (by kernel_rfl) (by rfl) (znT _ lo hi u.at_ a.s.at_.at_ a.s.here) (fun w=>by kernel_rfl) ?_
 rw [p.o]
 rintro e w1 ⟨rfl,g⟩
 refine ⟨_,rfl,a.on g,fun a=>?_⟩
 refine rgN ?_
 refine rgT 3 ?_
 refine rgT 4 ?_
 refine rgK 5 (fun w' c=>c.s.c24) ?_
 refine zal (i:=6) rfl (by kernel_rfl) (by rfl) (fewB_any judge_re _ lo hi u.rA u.rn u.rc u.re a.s.at_.re a.s.here d.o.re a.n) (fun w=>by kernel_rfl) ?_
 rw [m.o]
 rintro e r ⟨rfl,j⟩
 refine ⟨_,rfl,a.on j,fun a=>?_⟩
 refine rgN ?_
 refine rgT 7 ?_
 refine rgT 8 ?_
 refine rgS 9 ?_
 refine rgS 10 ?_
 refine rgS 11 ?_
 refine rgT 12 ?_
 refine rgT 13 ?_
 refine rgS 14 ?_
 refine rgS 15 ?_
 refine rgS 16 ?_
 refine rgS 17 ?_
 refine rgS 18 ?_
 refine rgS 19 ?_
 refine rgS 20 ?_
 refine rgS 21 ?_
 refine rgS 22 ?_
 refine rgS 23 ?_
 refine rgT 24 ?_
 refine rgT 25 ?_
 refine wpAnyH_done (by kernel_rfl) ?_ _
 go_wp2_with fail
 go_ret
 exact ⟨rfl,a.s.bl⟩
set_option maxRecDepth 20000 in
set_option maxHeartbeats 2000000 in
theorem rightu_3 (w:World) (lo hi:Nat) (u:UpP) (h:UpAt w lo hi u) (hh:hi≤w.heap.size) (c:FitU u) (m:za1 w) (q:Hid (zcm u.at_.ats=true)) (p:Hid (fewT ziU (u.re.map TbP.tb)=true)) (r:Hid (fewT (zbL false) (u.ne.map TbP.tb)=false)) :
  Calls prog 7 #[.agg (updC u)] w fun e w'=>e = .returned (.bool false)∧Below w.heap.size w w':=by
 have l:=hD (UpS.start h hh)
 have t:Hid (UgS w (w.alloc (.cells (updC u) 38)) lo hi u):=hD ⟨l.o,m.below l.o.bl⟩
 have d:=hD c
 have f:=hD h.ob
 clear h c m l
 go_enter func7,ntmps7
 go_wp2_with fail
 refine wp_region_held_drew (S:=fun z=>UgS w z lo hi u) (by kernel_rfl) t.o.drew (fun a=>?_)
 refine rgT 0 ?_
 refine rgV 1 (.agg (attC u.at_)) (fun w' b=>zcu (.tmp 3) rfl w.heap.size 0 rfl b.s.ratt f.o) ?_
 refine zal (i:=2) rfl (by kernel_rfl) (by rfl) (znT _ lo hi u.at_ a.s.at_.at_ a.s.here) (fun w=>by kernel_rfl) ?_
 rw [q.o]
 rintro e w1 ⟨rfl,j⟩
 refine ⟨_,rfl,a.on j,fun a=>?_⟩
 refine rgN ?_
 refine rgT 3 ?_
 refine rgT 4 ?_
 refine rgK 5 (fun w' b=>b.s.c24) ?_
 refine zal (i:=6) rfl (by kernel_rfl) (by rfl) (fewB_any judge_re _ lo hi u.rA u.rn u.rc u.re a.s.at_.re a.s.here d.o.re a.n) (fun w=>by kernel_rfl) ?_
 rw [p.o]
 rintro e v ⟨rfl,k⟩
 refine ⟨_,rfl,a.on k,fun a=>?_⟩
 refine rgN ?_
 refine rgT 7 ?_
 refine rgT 8 ?_
 refine rgT 9 ?_
 refine rgK 10 (fun w' b=>b.s.c25) ?_
 refine zal (i:=11) rfl (by kernel_rfl) (by rfl) (fewB_any judge_un _ lo hi u.nA u.nn u.nc u.ne a.s.at_.ne a.s.here d.o.ne a.n) (fun w=>by kernel_rfl) ?_
 rw [r.o]
 rintro e x ⟨rfl,g⟩
 refine ⟨_,rfl,a.on g,fun a=>?_⟩
 refine rgN ?_
 refine rgT 12 ?_
 refine rgT 13 ?_
 refine rgS 14 ?_
 refine rgS 15 ?_
 refine rgS 16 ?_
 refine rgS 17 ?_
 refine rgS 18 ?_
 refine rgS 19 ?_
 refine rgS 20 ?_
 refine rgS 21 ?_
 refine rgS 22 ?_
 refine rgS 23 ?_
 refine rgT 24 ?_
 refine rgT 25 ?_
 refine wpAnyH_done (by kernel_rfl) ?_ _
 go_wp2_with fail
 go_ret
 exact ⟨rfl,a.s.bl⟩
set_option maxRecDepth 20000 in
set_option maxHeartbeats 2000000 in
theorem rightu_4 (w:World) (lo hi:Nat) (u:UpP) (h:UpAt w lo hi u) (hh:hi≤w.heap.size) (c:FitU u) (m:za1 w) (q:Hid (zcm u.at_.ats=true)) (p:Hid (fewT ziU (u.re.map TbP.tb)=true)) (r:Hid (fewT (zbL false) (u.ne.map TbP.tb)=true)) (hr:(0:Int)<(u.rn:Int)) :
  Calls prog 7 #[.agg (updC u)] w fun e w'=>e = .returned (.bool true)∧Below w.heap.size w w':=by
 have l:=hD (UpS.start h hh)
 have t:Hid (UgS w (w.alloc (.cells (updC u) 38)) lo hi u):=hD ⟨l.o,m.below l.o.bl⟩
 have d:=hD c
 have f:=hD h.ob
 clear h c m l
 go_enter func7,ntmps7
 go_wp2_with fail
 refine wp_region_held_drew (S:=fun z=>UgS w z lo hi u) (by kernel_rfl) t.o.drew (fun a=>?_)
 refine rgT 0 ?_
 refine rgV 1 (.agg (attC u.at_)) (fun w' b=>zcu (.tmp 3) rfl w.heap.size 0 rfl b.s.ratt f.o) ?_
 refine zal (i:=2) rfl (by kernel_rfl) (by rfl) (znT _ lo hi u.at_ a.s.at_.at_ a.s.here) (fun w=>by kernel_rfl) ?_
 rw [q.o]
 rintro e w1 ⟨rfl,j⟩
 refine ⟨_,rfl,a.on j,fun a=>?_⟩
 refine rgN ?_
 refine rgT 3 ?_
 refine rgT 4 ?_
 refine rgK 5 (fun w' b=>b.s.c24) ?_
 refine zal (i:=6) rfl (by kernel_rfl) (by rfl) (fewB_any judge_re _ lo hi u.rA u.rn u.rc u.re a.s.at_.re a.s.here d.o.re a.n) (fun w=>by kernel_rfl) ?_
 rw [p.o]
 rintro e v ⟨rfl,k⟩
 refine ⟨_,rfl,a.on k,fun a=>?_⟩
 refine rgN ?_
 refine rgT 7 ?_
 refine rgT 8 ?_
 refine rgT 9 ?_
 refine rgK 10 (fun w' b=>b.s.c25) ?_
 refine zal (i:=11) rfl (by kernel_rfl) (by rfl) (fewB_any judge_un _ lo hi u.nA u.nn u.nc u.ne a.s.at_.ne a.s.here d.o.ne a.n) (fun w=>by kernel_rfl) ?_
 rw [r.o]
 rintro e x ⟨rfl,g⟩
 refine ⟨_,rfl,a.on g,fun a=>?_⟩
 refine rgN ?_
 refine rgT 12 ?_
 refine rgT 13 ?_
 refine rgT 14 ?_
 refine rgK 15 (fun w' b=>b.s.c24) ?_
 refine rgT 16 ?_
 refine rgV 17 (.bool true) ?_ ?_
 ·(intro w' b;(try dsimp only at b);go_simp <;> first | rfl | omega)
 refine rgT 18 ?_
 refine rgS 19 ?_
 refine rgS 20 ?_
 refine rgS 21 ?_
 refine rgS 22 ?_
 refine rgT 23 ?_
 refine rgT 24 ?_
 refine rgT 25 ?_
 refine wpAnyH_done (by kernel_rfl) ?_ _
 go_wp2_with fail
 go_ret
 exact ⟨rfl,a.s.bl⟩
set_option maxRecDepth 20000 in
set_option maxHeartbeats 2000000 in
theorem rightu_5 (w:World) (lo hi:Nat) (u:UpP) (h:UpAt w lo hi u) (hh:hi≤w.heap.size) (c:FitU u) (r:za1 w) (t:Hid (zcm u.at_.ats=true)) (x:Hid (fewT ziU (u.re.map TbP.tb)=true)) (A:Hid (fewT (zbL false) (u.ne.map TbP.tb)=true)) (hr:¬ (0:Int)<(u.rn:Int)) :
  Calls prog 7 #[.agg (updC u)] w fun e w'=>e = .returned (.bool (zeD u.at_.ats zeo))∧Below w.heap.size w w':=by
 have k:=hD (UpS.start h hh)
 have v:Hid (UgS w (w.alloc (.cells (updC u) 38)) lo hi u):=hD ⟨k.o,r.below k.o.bl⟩
 have d:=hD c
 have f:=hD h.ob
 clear h c r k
 go_enter func7,ntmps7
 go_wp2_with fail
 refine wp_region_held_drew (S:=fun z=>UgS w z lo hi u) (by kernel_rfl) v.o.drew (fun a=>?_)
 refine rgT 0 ?_
 refine rgV 1 (.agg (attC u.at_)) (fun w' b=>zcu (.tmp 3) rfl w.heap.size 0 rfl b.s.ratt f.o) ?_
 refine zal (i:=2) rfl (by kernel_rfl) (by rfl) (znT _ lo hi u.at_ a.s.at_.at_ a.s.here) (fun w=>by kernel_rfl) ?_
 rw [t.o]
 rintro e w1 ⟨rfl,q⟩
 refine ⟨_,rfl,a.on q,fun a=>?_⟩
 refine rgN ?_
 refine rgT 3 ?_
 refine rgT 4 ?_
 refine rgK 5 (fun w' b=>b.s.c24) ?_
 refine zal (i:=6) rfl (by kernel_rfl) (by rfl) (fewB_any judge_re _ lo hi u.rA u.rn u.rc u.re a.s.at_.re a.s.here d.o.re a.n) (fun w=>by kernel_rfl) ?_
 rw [x.o]
 rintro e D ⟨rfl,g⟩
 refine ⟨_,rfl,a.on g,fun a=>?_⟩
 refine rgN ?_
 refine rgT 7 ?_
 refine rgT 8 ?_
 refine rgT 9 ?_
 refine rgK 10 (fun w' b=>b.s.c25) ?_
 refine zal (i:=11) rfl (by kernel_rfl) (by rfl) (fewB_any judge_un _ lo hi u.nA u.nn u.nc u.ne a.s.at_.ne a.s.here d.o.ne a.n) (fun w=>by kernel_rfl) ?_
 rw [A.o]
 rintro e C ⟨rfl,m⟩
 refine ⟨_,rfl,a.on m,fun a=>?_⟩
 refine rgN ?_
 refine rgT 12 ?_
 refine rgT 13 ?_
 refine rgT 14 ?_
 refine rgK 15 (fun w' b=>b.s.c24) ?_
 refine rgT 16 ?_
 refine rgV 17 (.bool false) ?_ ?_
 ·(intro w' b;(try dsimp only at b);go_simp <;> first | rfl | omega)
 refine rgT 18 ?_
 refine rgT 19 ?_
 refine rgV 20 (.agg (attC u.at_)) (fun w' b=>zcu (.tmp 22) rfl w.heap.size 0 rfl b.s.ratt f.o) ?_
 refine zal (i:=21) rfl (by kernel_rfl) (by rfl) (zpv _) (fun w=>by kernel_rfl) ?_
 rintro e l ⟨rfl,j⟩
 refine ⟨_,rfl,a.on j,fun a=>?_⟩
 refine rgN ?_
 refine zal (i:=22) rfl (by kernel_rfl) (by rfl) (zu0 l lo hi l.heap.size l.heap.size u.at_ zgg a.s.at_.at_ (zjc _ _ _) a.s.here lr (d.o.at_ t.o)) (fun w=>by kernel_rfl) ?_
 rintro e B ⟨rfl,p⟩
 refine ⟨_,rfl,a.on p,fun a=>?_⟩
 refine rgN ?_
 refine rgT 23 ?_
 refine rgT 24 ?_
 refine rgT 25 ?_
 refine wpAnyH_done (by kernel_rfl) ?_ _
 go_wp2_with fail
 go_ret
 exact ⟨by rw [none_ats];cases zeD u.at_.ats zeo <;> rfl,a.s.bl⟩
theorem rightu_any (w:World) (lo hi:Nat) (u:UpP) (h:UpAt w lo hi u) (hh:hi≤w.heap.size) (a:FitU u) (b:za1 w) :
  Calls prog 7 #[.agg (updC u)] w fun e w'=>e = .returned (.bool (ziT u.up))∧Below w.heap.size w w':=by
 have c:(u.re.map TbP.tb).length=u.rn:=by rw [List.length_map,h.re.len]
 have e:ziT u.up=(zcm u.at_.ats&&(fewT ziU (u.re.map TbP.tb)&&(fewT (zbL false) (u.ne.map TbP.tb)&&(decide (0<u.rn)||zeD u.at_.ats zeo)))):=by rw [← c];rfl
 rw [e]
 cases h1:zcm u.at_.ats
 ·exact rightu_1 w lo hi u h hh a b (hD h1)
 ·cases h2:fewT ziU (u.re.map TbP.tb)
  ·exact rightu_2 w lo hi u h hh a b (hD h1) (hD h2)
  ·cases h3:fewT (zbL false) (u.ne.map TbP.tb)
   ·exact rightu_3 w lo hi u h hh a b (hD h1) (hD h2) (hD h3)
   ·by_cases hr:0<u.rn
    ·rw [decide_eq_true hr]
     exact rightu_4 w lo hi u h hh a b (hD h1) (hD h2) (hD h3) (by omega)
    ·rw [decide_eq_false hr]
     exact rightu_5 w lo hi u h hh a b (hD h1) (hD h2) (hD h3) (by omega)
end
section
open Go.RowKit
set_option maxRecDepth 20000 in
set_option maxHeartbeats 1000000 in
theorem right_nokind (w:World) (k:Int) (O U N F:List Value) (hm:MeOk O U N F) (s:¬ (k=1∨k=2∨k=3∨k=4∨k=5)) :
  Calls prog 8 #[.agg (meC k O U N F)] w fun e w'=>e = .returned (.bool false)∧Below w.heap.size w w':=by
 have p:=hD (Blk.new w 44 (meC k O U N F)).drew
 have n:=hD (zaj ((Below.refl w.heap.size w).alloc lr (.cells (meC k O U N F) 44)))
 have d:=hD hm
 have B:(k==1)=false:=beq_eq_false_iff_ne.2 (by omega)
 have D:(k==2)=false:=beq_eq_false_iff_ne.2 (by omega)
 have G:(k==3)=false:=beq_eq_false_iff_ne.2 (by omega)
 have C:(k==4)=false:=beq_eq_false_iff_ne.2 (by omega)
 have E:(k==5)=false:=beq_eq_false_iff_ne.2 (by omega)
 have K:∀ z,Blk z w.heap.size 44 (meC k O U N F)→z.cell? ⟨w.heap.size,0,none⟩=some (.int .i64 k)∧True∧True∧True∧True∧True:=fun z h=>⟨(zd0 d.o h).1,trivial,trivial,trivial,trivial,trivial⟩
 clear hm s
 go_enter func8,ntmps8
 go_wp2_with fail
 refine wp_region_held_drew (S:=fun z=>Blk z w.heap.size 44 (meC k O U N F)) (by kernel_rfl) p.o (fun a=>?_)
 refine rgV 0 (.agg (meC k O U N F)) (fun w' j=>za3 (.tmp 1) rfl w.heap.size rfl d.o j) ?_
 repeat refine rgA K ?_
 have r:=hD n.o
 have g:(w.alloc (.cells (meC k O U N F) 44)).drew.heap.size=w.heap.size+1:=by simp
 generalize (w.alloc (.cells (meC k O U N F) 44)).drew=wd at *
 have m:=Blk.new wd 44 (zMe 0)
 rw [g] at m
 have l:=hD m
 clear m
 refine rgM (fun a=>?_)
 have c:(meC k O U N F).size=53:=zfI d.o
 have f:=hD (zai (meC k O U N F).toList 0 _ _ (zad (wd.alloc (.cells (zMe 0) 44)) (some (w.heap.size+1))))
 have b:Blk ((wd.alloc (.cells (zMe 0) 44)).setCells (w.heap.size+1) 0 (meC k O U N F).toList) w.heap.size 44 (meC k O U N F):=a.grown f.o (by intro e;injection e;omega)
 refine zau (i:=5) rfl (by kernel_rfl) (by rfl) (zbN 44 (.tmp 3) (.tmp 5) rfl (w.heap.size+1) rfl (meC k O U N F) rfl (by rw [c];show _=some 53;kernel_rfl) (zjh d.o) l.o (by rw [c];rfl)) b (fun a=>?_)
 have A:=hD (zfL l.o (show (zMe 0).size=(meC k O U N F).size by rw [c];rfl))
 have t:=hD ((r.o.alloc (by omega) (.cells (zMe 0) 44)).grown f.o (by simp;omega) (fun q hq=>by injection hq with hq;omega))
 have x:=hD a
 clear l r n b f p
 generalize ((wd.alloc (.cells (zMe 0) 44)).setCells (w.heap.size+1) 0 (meC k O U N F).toList)=w3 at *
 refine rgN ?_
 repeat refine rgA (F:=fun _=>True) (fun _ _=>trivial) ?_
 refine wpAnyH_done (by kernel_rfl) ?_ _
 have k0:=(K w3 x.o).1
 have v:=hD c
 clear c a K
 go_wp2_with fail
 go_ret
 exact ⟨rfl,t.o⟩
theorem tellsu_any (w:World) (lo hi:Nat) (u:UpP) (h:UpAt w lo hi u) (hh:hi≤w.heap.size) (b:FitS u) :
  Calls prog 41 #[.agg (updL u).toArray] w fun e w'=>e = .returned (.bool (emU11 u.up))∧Below w.heap.size w w':=by
 refine tells_gen w (updL u) (zkX h.ob) (updC zdo) (ziK u.up zdo.up) (ziK u.up zU11.up) (fun z _=>zg7 z) (fun z a=>?_) (fun z a=>?_)
 ·exact zrI z lo hi z.heap.size z.heap.size u zdo (h.below (a.mono hh)) (zlN _ _ _) (Nat.le_trans hh a.size) lr b
 ·rw [← zU11_C]
  exact zrI z lo hi z.heap.size z.heap.size u zU11 (h.below (a.mono hh)) (zgY _ _ _) (Nat.le_trans hh a.size) lr b
theorem sameuz_any (w:World) (lo hi:Nat) (u:UpP) (h:UpAt w lo hi u) (hh:hi≤w.heap.size) (b:FitS u) :
  Calls prog 15 #[.agg (updL u).toArray,.agg zUpL.toArray] w fun e w'=>e = .returned (.bool (zwy u.up))∧Below w.heap.size w w':=by
 refine sameu_gen w (updL u) zUpL (zkX h.ob) rfl (ziK u.up zU11.up) (emU11 u.up) (emU11 zU11.up) (fun z a=>?_) (fun z a=>tellsu_any z lo hi u (h.below (a.mono hh)) (Nat.le_trans hh a.size) b) (fun z _=>?_)
 ·rw [← zU11_C]
  exact zrI z lo hi z.heap.size z.heap.size u zU11 (h.below (a.mono hh)) (zgY _ _ _) (Nat.le_trans hh a.size) lr b
 ·have:=tellsu_any z z.heap.size z.heap.size zU11 (zgY _ _ _) lr zfu
  rw [zl6] at this
  exact this
theorem samerest_any (w:World) (lo hi:Nat) (k:Int) (x:OpP) (u:UpP) (p:NoP) (f:Int × Int) (hx:OpAt w lo hi x) (hu:UpAt w lo hi u) (hp:NoAt w lo hi p) (hh:hi≤w.heap.size) (hn:x.fn≤100000000000000) (b:FitS u) :
  Calls prog 6 #[.agg (meC k (opL x) (updL u) (noL p) (famL f)),.agg (zMe k)] w fun e w'=>e = .returned (.bool (ziV x u p f))∧Below w.heap.size w w':=by
 have h:=zs9 w lo hi w.heap.size w.heap.size k k f (0,0) x op0 (updL u) zUpL p (no0 0 0) (zwy u.up) (zqT (zi8 hx.ib) (zkX hu.ob) rfl rfl (zoa _) (zh8 _) (zjD (zoe _)) (zjD (zlE _))) zdr hx (zgE _ _ _) hp (zkB _ _ _ _ _) hh lr hn
  (fun z a=>sameuz_any z lo hi u (hu.below (a.mono hh)) (Nat.le_trans hh a.size) b)
 have e:zo1 k k f (0,0) x op0 (zwy u.up) p (no0 0 0)=ziV x u p f:=by
  unfold zo1 ziV
  rw [beq_self_eq_true,Bool.true_and]
 rw [e] at h
 exact h
theorem mright_any (w:World) (lo hi:Nat) (m:MeP) (h:MeAt w lo hi m) (hh:hi≤w.heap.size) (d:zyQ m) (i:za1 w) :
  Calls prog 8 #[.agg m.C] w fun e w'=>e = .returned (.bool (zgd m))∧Below w.heap.size w w':=by
 obtain ⟨k,x,u,p,f⟩:=m
 have a:=h.ok
 obtain ⟨hx,hu,hp⟩:=h
 unfold MeP.C zgd
 dsimp only at *
 have rest:∀ (z:World) (k:Int) (x':OpP) (u':UpP) (p':NoP) (f':Int × Int),Below w.heap.size w z→OpAt w lo hi x'→UpAt w lo hi u'→NoAt w lo hi p'→x'.fn≤100000000000000→FitS u' →
   Calls prog 6 #[.agg (meC k (opL x') (updL u') (noL p') (famL f')),.agg (zMe k)] z fun e z'=>e = .returned (.bool (ziV x' u' p' f'))∧Below z.heap.size z z' :=
  fun z k x' u' p' f' b h1 h2 h3 h4 g=>samerest_any z lo hi k x' u' p' f' (h1.below (b.mono hh)) (h2.below (b.mono hh)) (h3.below (b.mono hh)) (Nat.le_trans hh b.size) h4 g
 by_cases h1:k=1
 ·subst h1
  rw [if_pos rfl]
  refine zxE w (opL x) (opL x) (updL u) (noL p) (famL f) a ⟨rfl,a.u,a.n,a.f,?_⟩ (zb1 x.op) (ziV op0 u p f) (fun z b=>zla z lo hi x (hx.below (b.mono hh)) (Nat.le_trans hh b.size) d.o) (fun z b=>?_)
  ·exact (zqT rfl a.u a.n a.f zkP (zh8 _) (zjD (zoe _)) (zjD (zlE _))).one
  ·rw [← zqG]
   exact rest z 1 op0 u p f b (zgE _ _ _) hu hp (Nat.zero_le _) d.s
 rw [if_neg h1]
 by_cases h2:k=2
 ·subst h2
  rw [if_pos rfl]
  refine right_2 w (updL u) (opL x) (updL u) (noL p) (famL f) a (zqT a.o rfl a.n a.f (zoa _) zkO (zjD (zoe _)) (zjD (zlE _))) (ziT u.up) (ziV x zU11 p f) (fun z b=>rightu_any z lo hi u (hu.below (b.mono hh)) (Nat.le_trans hh b.size) d.u (i.below b)) (fun z b=>?_)
  rw [← zl6]
  exact rest z 2 x zU11 p f b hx (zgY _ _ _) hp d.o zfu
 rw [if_neg h2]
 by_cases h3:k=3
 ·subst h3
  rw [if_pos rfl]
  refine right_3 w (noL p) (opL x) (updL u) (noL p) (famL f) a (zqT a.o a.u rfl a.f (zoa _) (zh8 _) zkQ (zjD (zlE _))) (zsv p.c p.s p.dl) (ziV x u (no0 0 0) f) (fun z b=>rightnote_any z lo hi p (hp.below (b.mono hh)) (Nat.le_trans hh b.size)) (fun z b=>?_)
  exact rest z 3 x u (no0 0 0) f b hx hu (zkB _ _ _ _ _) d.o d.s
 rw [if_neg h3]
 by_cases h4:k=4
 ·subst h4
  rw [if_pos rfl]
  exact zxD w (opL x) (updL u) (noL p) (famL f) a (ziV x u p f) (fun z b=>rest z 4 x u p f b hx hu hp d.o d.s)
 rw [if_neg h4]
 by_cases g:k=5
 ·subst g
  rw [if_pos rfl]
  refine right_5 w (famL f) (opL x) (updL u) (noL p) (famL f) a (zqT a.o a.u a.n rfl (zoa _) (zh8 _) (zjD (zoe _)) zkR) (kF f) (ziV x u p (0,0)) (fun z b=>zfJ z f) (fun z b=>?_)
  exact rest z 5 x u p (0,0) b hx hu hp d.o d.s
 rw [if_neg g]
 exact right_nokind w k (opL x) (updL u) (noL p) (famL f) a (by omega)
end
end Go.Proofs.YtplpglfjcieloaaGreatDoor
