/-
  What next of package attr does, whatever attribute comes. The one condition: the table of kinds holds what its text lays.
-/
import Derived.Test.YtookpplebikfnaaGreatDoorKHAQ
set_option linter.unusedVariables false
set_option linter.unusedSimpArgs false
namespace Go.Proofs.YtookpplebikfnaaGreatDoor
section
set_option maxRecDepth 20000
set_option maxHeartbeats 2000000
open Go.RowKit
open Go.Maps (Keyed IsMap Tidy)
def zcj (k:Int):Bool:=decide (k=1∨k=2∨k=4∨k=5∨k=9∨k=10∨k=16∨k=22)
theorem zl5 (w:World) (K:Int) (hK:zcj K=false) (h:zdd w):Calls Tryz.prog 100 #[.int .i64 K] w fun e w'=>e = .returned (.tuple #[.int .i64 0,.bool false])∧Below w.heap.size w w':=by
 have hn:=of_decide_eq_false hK
 have b1:((1:Int)==K)=false:=beq_eq_false_iff_ne.2 (by omega)
 have b2:((2:Int)==K)=false:=beq_eq_false_iff_ne.2 (by omega)
 have b4:((4:Int)==K)=false:=beq_eq_false_iff_ne.2 (by omega)
 have b5:((5:Int)==K)=false:=beq_eq_false_iff_ne.2 (by omega)
 have b9:((9:Int)==K)=false:=beq_eq_false_iff_ne.2 (by omega)
 have b10:((10:Int)==K)=false:=beq_eq_false_iff_ne.2 (by omega)
 have b16:((16:Int)==K)=false:=beq_eq_false_iff_ne.2 (by omega)
 have b22:((22:Int)==K)=false:=beq_eq_false_iff_ne.2 (by omega)
 have H:=hide h
 clear h hn hK
 have q0:=zcz
 have q1:=zc7
 have q2:=zdt
 have q3:=zdP
 have q4:=zeh
 have q5:=zfa
 have q6:=zgD
 have q7:=ziU
 go_enter Tryz.func100,Tryz.ntmps100
 go_wp2_with (with_reducible refine zbe rfl (.global 0) rfl rfl H.out ?_)
 refine wp_loop_rounds 9 ?_
 rw [rounds_succ]
 go_wp2
 rw [rounds_succ]
 go_wp2
 rw [rounds_succ]
 go_wp2
 rw [rounds_succ]
 go_wp2
 rw [rounds_succ]
 go_wp2
 rw [rounds_succ]
 go_wp2
 rw [rounds_succ]
 go_wp2
 rw [rounds_succ]
 go_wp2
 rw [rounds_succ]
 go_wp2
 go_ret2
 exact ⟨rfl,((((((((Below.refl _ _).alloc (by first | (simp;done) | (simp;omega)) _).alloc (by first | (simp;done) | (simp;omega)) _).alloc (by first | (simp;done) | (simp;omega)) _).alloc (by first | (simp;done) | (simp;omega)) _).alloc (by first | (simp;done) | (simp;omega)) _).alloc (by first | (simp;done) | (simp;omega)) _).alloc (by first | (simp;done) | (simp;omega)) _).alloc (by first | (simp;done) | (simp;omega)) _⟩
theorem zaX {o:Oper} {a:Act} {w:World} {m n:Nat} {D:DataW Unit} (y x:Operand) (ho:o.op = .lookup 116 y x false) (hm:a.eval y = .map (some m)) {K c:Int} (hx:a.eval x = .int .i64 K) (h:Came w m n D) (hK:(Lit.int .i64 K).wf=true)
  (hat:D.atKey (.int .i64 K) (.lit (.int .i64 0)) = .lit (.int .i64 c)):(execOp a.eval o).run Tryz.prog w = .ok (.value (.int .i64 c)) w:=by
 obtain ⟨c',hrun,hc,_⟩:=h.lookup_int zf8 Tryz.underlying116 Tryz.underlying3 (zjF w) (key9 hK)
 rw [hat] at hc
 obtain rfl:c=c':=(Lit.int.inj (DataW.lit.inj hc)).2
 unfold execOp
 simp only [ho,hm,hx,Sem.run_bind,hrun,Result.andThen_ok,Sem.run_pure]
structure NxG (w x:World) (r m n:Nat) (D:DataW Unit) (p:AtP) (rv:Value) (q:RawP):Prop where
 rd:Blk x r 118 (rdgC p rv m)
 bx:Blk x w.heap.size 89 (rawC q)
 mp:Came x m n D
 bl:Below w.heap.size w x
 ob:p.ob.length=16
section
variable {w x y:World} {r m n:Nat} {D:DataW Unit} {p:AtP} {rv:Value} {q:RawP}
theorem NxG.c25 (h:NxG w x r m n D p rv q):x.cell? ⟨r,25,none⟩=some (.map (some m)):=zoe h.rd h.ob
theorem NxG.c0 (h:NxG w x r m n D p rv q):x.cell? ⟨w.heap.size,0,none⟩=some (.int .i64 q.f):=h.bx.cell 0
theorem NxG.c1 (h:NxG w x r m n D p rv q):x.cell? ⟨w.heap.size,1,none⟩=some (.int .i64 q.k):=h.bx.cell 1
theorem NxG.drew (h:NxG w x r m n D p rv q):NxG w x.drew r m n D p rv q:=⟨h.rd.drew,h.bx.drew,h.mp.drew,zal h.bl,h.ob⟩
end
theorem zpr {rv:Value} (w:World) (r m cnt:Nat) (D:DataW Unit) (p:AtP) (F K c0 FL:Int) (A:Option Addr) (n c:Nat) (b:List UInt8) (hob:p.ob.length=16) (hb:Blk w r 118 (rdgC p rv m)) (hm:Came w m cnt D) (hat:D.atKey (.int .i64 K) (.lit (.int .i64 0)) = .lit (.int .i64 c0)) (hKW:(Lit.int .i64 K).wf=true)
  (HF:∀ x,Below w.heap.size w x→Calls Tryz.prog 100 #[.int .i64 K] x fun e w'=>e = .returned (.tuple #[.int .i64 FL,.bool true])∧Below x.heap.size x w')
  (hc:0<c0) (e14:(K==14)=false) (e15:(K==15)=false) :
  Calls Tryz.prog 65 #[.pointer (some ⟨r,0,none⟩),.agg (rawC ⟨F,K,A,n,c,b⟩)] w (fun e w'=>e = .returned (.int .i64 1)∧Below w.heap.size w w'):=by
 have ST:Hid (NxG w (w.alloc (.cells (rawC ⟨F,K,A,n,c,b⟩) 89)) r m cnt D p rv ⟨F,K,A,n,c,b⟩):=hide ⟨hb.alloc _,Blk.new w _ _,hm.alloc _,(Below.refl _ _).alloc (Nat.le_refl _) _,hob⟩
 have HAT:=hide hat
 have HFH:=hide HF
 clear hb hm hat hob HF
 go_enter Tryz.func65,Tryz.ntmps65
 go_wp2_with fail
 generalize hw1:w.alloc (.cells (rawC ⟨F,K,A,n,c,b⟩) 89)=w1 at *
 clear hw1
 refine wp_region_held_drew (S:=fun x=>NxG w x r m cnt D p rv ⟨F,K,A,n,c,b⟩) (by kernel_rfl) ST.out.drew (fun hHeld=>?_)
 refine rgT 0 ?_
 refine rgT 1 ?_
 refine rgT 2 ?_
 refine rgK 3 (fun w' hSw=>hSw.c25) ?_
 refine rgT 4 ?_
 refine rgK 5 (fun w' hSw=>hSw.c1) ?_
 refine rgV 6 (.int .i64 c0) ?_ ?_
 ·(intro w' hSw;exact zaX (.tmp 12) (.tmp 14) rfl rfl rfl hSw.mp hKW HAT.out)
 refine rgT 7 ?_
 refine rgT 8 ?_
 refine wpAnyH_done (by kernel_rfl) ?_ _
 have k0:=hHeld.c0
 have k1:=hHeld.c1
 have W1:=hide hHeld.bl
 have B1:=hide hHeld.bx
 clear hHeld ST
 generalize w1.drew=w2 at *
 go_wp2_with fail
 refine (HFH.out w2 W1.out).mono ?_
 rintro e w3 ⟨rfl,hb3⟩
 have B3:=hide (B1.out.over hb3)
 have W3:=hide (zaa W1.out hb3 (Nat.le_refl _))
 have k3:w3.cell? ⟨w.heap.size,0,none⟩=some (.int .i64 F):=B3.out.cell 0
 have k4:w3.cell? ⟨w.heap.size,1,none⟩=some (.int .i64 K):=B3.out.cell 1
 clear hb3 k0 k1
 go_wp2_with fail
 go_ret
 exact ⟨rfl,W3.out⟩
theorem zm0 {rv:Value} (w:World) (r m cnt:Nat) (D:DataW Unit) (p:AtP) (F K c0 FL:Int) (A:Option Addr) (n c:Nat) (b:List UInt8) (hob:p.ob.length=16) (hb:Blk w r 118 (rdgC p rv m)) (hm:Came w m cnt D) (hat:D.atKey (.int .i64 K) (.lit (.int .i64 0)) = .lit (.int .i64 c0)) (hKW:(Lit.int .i64 K).wf=true)
  (HF:∀ x,Below w.heap.size w x→Calls Tryz.prog 100 #[.int .i64 K] x fun e w'=>e = .returned (.tuple #[.int .i64 FL,.bool false])∧Below x.heap.size x w')
  (hc:0<c0) (hk:K=14∨K=15) :
  Calls Tryz.prog 65 #[.pointer (some ⟨r,0,none⟩),.agg (rawC ⟨F,K,A,n,c,b⟩)] w (fun e w'=>e = .returned (.int .i64 3)∧Below w.heap.size w w'):=by
 have hkk:((K==14)=true)∨((K==14)=false∧(K==15)=true):=by
  rcases hk with rfl | rfl
  ·exact .inl rfl
  ·exact .inr ⟨rfl,rfl⟩
 clear hk
 rcases hkk with e14 | ⟨e14,e15⟩
 all_goals
  have ST:Hid (NxG w (w.alloc (.cells (rawC ⟨F,K,A,n,c,b⟩) 89)) r m cnt D p rv ⟨F,K,A,n,c,b⟩):=hide ⟨hb.alloc _,Blk.new w _ _,hm.alloc _,(Below.refl _ _).alloc (Nat.le_refl _) _,hob⟩
  have HAT:=hide hat
  have HFH:=hide HF
  clear hb hm hat hob HF
  go_enter Tryz.func65,Tryz.ntmps65
  go_wp2_with fail
  generalize hw1:w.alloc (.cells (rawC ⟨F,K,A,n,c,b⟩) 89)=w1 at *
  clear hw1
  refine wp_region_held_drew (S:=fun x=>NxG w x r m cnt D p rv ⟨F,K,A,n,c,b⟩) (by kernel_rfl) ST.out.drew (fun hHeld=>?_)
  refine rgT 0 ?_
  refine rgT 1 ?_
  refine rgT 2 ?_
  refine rgK 3 (fun w' hSw=>hSw.c25) ?_
  refine rgT 4 ?_
  refine rgK 5 (fun w' hSw=>hSw.c1) ?_
  refine rgV 6 (.int .i64 c0) ?_ ?_
  ·(intro w' hSw;exact zaX (.tmp 12) (.tmp 14) rfl rfl rfl hSw.mp hKW HAT.out)
  refine rgT 7 ?_
  refine rgT 8 ?_
  refine wpAnyH_done (by kernel_rfl) ?_ _
  have k0:=hHeld.c0
  have k1:=hHeld.c1
  have W1:=hide hHeld.bl
  have B1:=hide hHeld.bx
  clear hHeld ST
  generalize w1.drew=w2 at *
  go_wp2_with fail
  refine (HFH.out w2 W1.out).mono ?_
  rintro e w3 ⟨rfl,hb3⟩
  have B3:=hide (B1.out.over hb3)
  have W3:=hide (zaa W1.out hb3 (Nat.le_refl _))
  have k3:w3.cell? ⟨w.heap.size,0,none⟩=some (.int .i64 F):=B3.out.cell 0
  have k4:w3.cell? ⟨w.heap.size,1,none⟩=some (.int .i64 K):=B3.out.cell 1
  clear hb3 k0 k1
  go_wp2_with fail
  go_ret
  exact ⟨rfl,W3.out⟩
theorem zps {rv:Value} (w:World) (r m cnt:Nat) (D:DataW Unit) (p:AtP) (F K c0 FL:Int) (A:Option Addr) (n c:Nat) (b:List UInt8) (hob:p.ob.length=16) (hb:Blk w r 118 (rdgC p rv m)) (hm:Came w m cnt D) (hat:D.atKey (.int .i64 K) (.lit (.int .i64 0)) = .lit (.int .i64 c0)) (hKW:(Lit.int .i64 K).wf=true)
  (HF:∀ x,Below w.heap.size w x→Calls Tryz.prog 100 #[.int .i64 K] x fun e w'=>e = .returned (.tuple #[.int .i64 FL,.bool false])∧Below x.heap.size x w')
  (hc:c0=0) (fit:Bool) (hfit:(F==128)=fit) (out:Int) (R:World→Ending→World→Prop) (HT:∀ x,Below w.heap.size w x→Calls Tryz.prog 102 #[.pointer (some ⟨r,0,none⟩),.agg (rawC ⟨F,K,A,n,c,b⟩),.bool fit] x fun e w'=>e = .returned (.int .i64 out)∧R x e w') (hk:K=14∨K=15) :
  Calls Tryz.prog 65 #[.pointer (some ⟨r,0,none⟩),.agg (rawC ⟨F,K,A,n,c,b⟩)] w (fun e w'=>e = .returned (.int .i64 out)∧∃ x,Below w.heap.size w x∧R x e w'):=by
 have hkk:((K==14)=true)∨((K==14)=false∧(K==15)=true):=by
  rcases hk with rfl | rfl
  ·exact .inl rfl
  ·exact .inr ⟨rfl,rfl⟩
 clear hk
 subst hc
 rcases hkk with e14 | ⟨e14,e15⟩
 all_goals
  have ST:Hid (NxG w (w.alloc (.cells (rawC ⟨F,K,A,n,c,b⟩) 89)) r m cnt D p rv ⟨F,K,A,n,c,b⟩):=hide ⟨hb.alloc _,Blk.new w _ _,hm.alloc _,(Below.refl _ _).alloc (Nat.le_refl _) _,hob⟩
  have HAT:=hide hat
  have HFH:=hide HF
  clear hb hm hat hob HF
  go_enter Tryz.func65,Tryz.ntmps65
  go_wp2_with fail
  generalize hw1:w.alloc (.cells (rawC ⟨F,K,A,n,c,b⟩) 89)=w1 at *
  clear hw1
  refine wp_region_held_drew (S:=fun x=>NxG w x r m cnt D p rv ⟨F,K,A,n,c,b⟩) (by kernel_rfl) ST.out.drew (fun hHeld=>?_)
  refine rgT 0 ?_
  refine rgT 1 ?_
  refine rgT 2 ?_
  refine rgK 3 (fun w' hSw=>hSw.c25) ?_
  refine rgT 4 ?_
  refine rgK 5 (fun w' hSw=>hSw.c1) ?_
  refine rgV 6 (.int .i64 0) ?_ ?_
  ·(intro w' hSw;exact zaX (.tmp 12) (.tmp 14) rfl rfl rfl hSw.mp hKW HAT.out)
  refine rgT 7 ?_
  refine rgT 8 ?_
  refine wpAnyH_done (by kernel_rfl) ?_ _
  have k0:=hHeld.c0
  have k1:=hHeld.c1
  have W1:=hide hHeld.bl
  have B1:=hide hHeld.bx
  clear hHeld ST
  generalize w1.drew=w2 at *
  go_wp2_with fail
  refine (HFH.out w2 W1.out).mono ?_
  rintro e w3 ⟨rfl,hb3⟩
  have B3:=hide (B1.out.over hb3)
  have W3:=hide (zaa W1.out hb3 (Nat.le_refl _))
  have k3:w3.cell? ⟨w.heap.size,0,none⟩=some (.int .i64 F):=B3.out.cell 0
  have k4:w3.cell? ⟨w.heap.size,1,none⟩=some (.int .i64 K):=B3.out.cell 1
  clear hb3 k0 k1
  have HTH:=hide HT
  clear HT
  go_wp2_with (with_reducible refine zbY rfl (.tmp 3) rfl w.heap.size rfl B3.out ?_)
  refine (HTH.out w3 W3.out).mono ?_
  rintro e w4 ⟨rfl,hr⟩
  have HR:=hide hr
  clear hr
  go_wp2
  go_ret
  exact ⟨rfl,w3,W3.out,HR.out⟩
theorem zuc {rv:Value} (w:World) (r m cnt:Nat) (D:DataW Unit) (p:AtP) (F K c0 FL:Int) (A:Option Addr) (n c:Nat) (b:List UInt8) (hob:p.ob.length=16) (hb:Blk w r 118 (rdgC p rv m)) (hm:Came w m cnt D) (hat:D.atKey (.int .i64 K) (.lit (.int .i64 0)) = .lit (.int .i64 c0)) (hKW:(Lit.int .i64 K).wf=true)
  (HF:∀ x,Below w.heap.size w x→Calls Tryz.prog 100 #[.int .i64 K] x fun e w'=>e = .returned (.tuple #[.int .i64 FL,.bool false])∧Below x.heap.size x w')
  (e14:(K==14)=false) (e15:(K==15)=false) (z1:Int) (hz1:bits .and .i64 F 128=z1) (hz:(z1==0)=true) :
  Calls Tryz.prog 65 #[.pointer (some ⟨r,0,none⟩),.agg (rawC ⟨F,K,A,n,c,b⟩)] w (fun e w'=>e = .returned (.int .i64 3)∧Below w.heap.size w w'):=by
 have hcc:(0<c0)∨¬ (0<c0):=Classical.em _
 rcases hcc with hc | hc
 all_goals
  have ST:Hid (NxG w (w.alloc (.cells (rawC ⟨F,K,A,n,c,b⟩) 89)) r m cnt D p rv ⟨F,K,A,n,c,b⟩):=hide ⟨hb.alloc _,Blk.new w _ _,hm.alloc _,(Below.refl _ _).alloc (Nat.le_refl _) _,hob⟩
  have HAT:=hide hat
  have HFH:=hide HF
  clear hb hm hat hob HF
  go_enter Tryz.func65,Tryz.ntmps65
  go_wp2_with fail
  generalize hw1:w.alloc (.cells (rawC ⟨F,K,A,n,c,b⟩) 89)=w1 at *
  clear hw1
  refine wp_region_held_drew (S:=fun x=>NxG w x r m cnt D p rv ⟨F,K,A,n,c,b⟩) (by kernel_rfl) ST.out.drew (fun hHeld=>?_)
  refine rgT 0 ?_
  refine rgT 1 ?_
  refine rgT 2 ?_
  refine rgK 3 (fun w' hSw=>hSw.c25) ?_
  refine rgT 4 ?_
  refine rgK 5 (fun w' hSw=>hSw.c1) ?_
  refine rgV 6 (.int .i64 c0) ?_ ?_
  ·(intro w' hSw;exact zaX (.tmp 12) (.tmp 14) rfl rfl rfl hSw.mp hKW HAT.out)
  refine rgT 7 ?_
  refine rgT 8 ?_
  refine wpAnyH_done (by kernel_rfl) ?_ _
  have k0:=hHeld.c0
  have k1:=hHeld.c1
  have W1:=hide hHeld.bl
  have B1:=hide hHeld.bx
  clear hHeld ST
  generalize w1.drew=w2 at *
  go_wp2_with fail
  refine (HFH.out w2 W1.out).mono ?_
  rintro e w3 ⟨rfl,hb3⟩
  have B3:=hide (B1.out.over hb3)
  have W3:=hide (zaa W1.out hb3 (Nat.le_refl _))
  have k3:w3.cell? ⟨w.heap.size,0,none⟩=some (.int .i64 F):=B3.out.cell 0
  have k4:w3.cell? ⟨w.heap.size,1,none⟩=some (.int .i64 K):=B3.out.cell 1
  clear hb3 k0 k1
  go_wp2_with fail
  go_ret
  exact ⟨rfl,W3.out⟩
theorem zpt {rv:Value} (w:World) (r m cnt:Nat) (D:DataW Unit) (p:AtP) (F K c0 FL:Int) (A:Option Addr) (n c:Nat) (b:List UInt8) (hob:p.ob.length=16) (hb:Blk w r 118 (rdgC p rv m)) (hm:Came w m cnt D) (hat:D.atKey (.int .i64 K) (.lit (.int .i64 0)) = .lit (.int .i64 c0)) (hKW:(Lit.int .i64 K).wf=true)
  (HF:∀ x,Below w.heap.size w x→Calls Tryz.prog 100 #[.int .i64 K] x fun e w'=>e = .returned (.tuple #[.int .i64 FL,.bool false])∧Below x.heap.size x w')
  (e14:(K==14)=false) (e15:(K==15)=false) (z1 z2:Int) (hz1:bits .and .i64 F 128=z1) (hz:(z1==0)=false) (hz2:bits .and .i64 F 64=z2) (hz3:(z2 != 0)=true) (out:Int) (R:World→Ending→World→Prop) (HT:∀ x,Below w.heap.size w x→Calls Tryz.prog 102 #[.pointer (some ⟨r,0,none⟩),.agg (rawC ⟨F,K,A,n,c,b⟩),.bool true] x fun e w'=>e = .returned (.int .i64 out)∧R x e w') :
  Calls Tryz.prog 65 #[.pointer (some ⟨r,0,none⟩),.agg (rawC ⟨F,K,A,n,c,b⟩)] w (fun e w'=>e = .returned (.int .i64 out)∧∃ x,Below w.heap.size w x∧R x e w'):=by
 have hcc:(0<c0)∨¬ (0<c0):=Classical.em _
 rcases hcc with hc | hc
 all_goals
  have ST:Hid (NxG w (w.alloc (.cells (rawC ⟨F,K,A,n,c,b⟩) 89)) r m cnt D p rv ⟨F,K,A,n,c,b⟩):=hide ⟨hb.alloc _,Blk.new w _ _,hm.alloc _,(Below.refl _ _).alloc (Nat.le_refl _) _,hob⟩
  have HAT:=hide hat
  have HFH:=hide HF
  clear hb hm hat hob HF
  go_enter Tryz.func65,Tryz.ntmps65
  go_wp2_with fail
  generalize hw1:w.alloc (.cells (rawC ⟨F,K,A,n,c,b⟩) 89)=w1 at *
  clear hw1
  refine wp_region_held_drew (S:=fun x=>NxG w x r m cnt D p rv ⟨F,K,A,n,c,b⟩) (by kernel_rfl) ST.out.drew (fun hHeld=>?_)
  refine rgT 0 ?_
  refine rgT 1 ?_
  refine rgT 2 ?_
  refine rgK 3 (fun w' hSw=>hSw.c25) ?_
  refine rgT 4 ?_
  refine rgK 5 (fun w' hSw=>hSw.c1) ?_
  refine rgV 6 (.int .i64 c0) ?_ ?_
  ·(intro w' hSw;exact zaX (.tmp 12) (.tmp 14) rfl rfl rfl hSw.mp hKW HAT.out)
  refine rgT 7 ?_
  refine rgT 8 ?_
  refine wpAnyH_done (by kernel_rfl) ?_ _
  have k0:=hHeld.c0
  have k1:=hHeld.c1
  have W1:=hide hHeld.bl
  have B1:=hide hHeld.bx
  clear hHeld ST
  generalize w1.drew=w2 at *
  go_wp2_with fail
  refine (HFH.out w2 W1.out).mono ?_
  rintro e w3 ⟨rfl,hb3⟩
  have B3:=hide (B1.out.over hb3)
  have W3:=hide (zaa W1.out hb3 (Nat.le_refl _))
  have k3:w3.cell? ⟨w.heap.size,0,none⟩=some (.int .i64 F):=B3.out.cell 0
  have k4:w3.cell? ⟨w.heap.size,1,none⟩=some (.int .i64 K):=B3.out.cell 1
  clear hb3 k0 k1
  have HTH:=hide HT
  clear HT
  go_wp2_with (with_reducible refine zbY rfl (.tmp 3) rfl w.heap.size rfl B3.out ?_)
  refine (HTH.out w3 W3.out).mono ?_
  rintro e w4 ⟨rfl,hr⟩
  have HR:=hide hr
  clear hr
  go_wp2
  go_ret
  exact ⟨rfl,w3,W3.out,HR.out⟩
theorem zrI {rv:Value} (w:World) (r m cnt:Nat) (D:DataW Unit) (p:AtP) (F K c0 FL:Int) (A:Option Addr) (n c:Nat) (b:List UInt8) (hob:p.ob.length=16) (hb:Blk w r 118 (rdgC p rv m)) (hm:Came w m cnt D) (hat:D.atKey (.int .i64 K) (.lit (.int .i64 0)) = .lit (.int .i64 c0)) (hKW:(Lit.int .i64 K).wf=true)
  (HF:∀ x,Below w.heap.size w x→Calls Tryz.prog 100 #[.int .i64 K] x fun e w'=>e = .returned (.tuple #[.int .i64 FL,.bool false])∧Below x.heap.size x w')
  (e14:(K==14)=false) (e15:(K==15)=false) (z1 z2:Int) (hz1:bits .and .i64 F 128=z1) (hz:(z1==0)=false) (hz2:bits .and .i64 F 64=z2) (hz3:(z2 != 0)=false) :
  Calls Tryz.prog 65 #[.pointer (some ⟨r,0,none⟩),.agg (rawC ⟨F,K,A,n,c,b⟩)] w (fun e w'=>e = .returned (.int .i64 0)∧Below w.heap.size w w'):=by
 have hcc:(0<c0)∨¬ (0<c0):=Classical.em _
 rcases hcc with hc | hc
 all_goals
  have ST:Hid (NxG w (w.alloc (.cells (rawC ⟨F,K,A,n,c,b⟩) 89)) r m cnt D p rv ⟨F,K,A,n,c,b⟩):=hide ⟨hb.alloc _,Blk.new w _ _,hm.alloc _,(Below.refl _ _).alloc (Nat.le_refl _) _,hob⟩
  have HAT:=hide hat
  have HFH:=hide HF
  clear hb hm hat hob HF
  go_enter Tryz.func65,Tryz.ntmps65
  go_wp2_with fail
  generalize hw1:w.alloc (.cells (rawC ⟨F,K,A,n,c,b⟩) 89)=w1 at *
  clear hw1
  refine wp_region_held_drew (S:=fun x=>NxG w x r m cnt D p rv ⟨F,K,A,n,c,b⟩) (by kernel_rfl) ST.out.drew (fun hHeld=>?_)
  refine rgT 0 ?_
  refine rgT 1 ?_
  refine rgT 2 ?_
  refine rgK 3 (fun w' hSw=>hSw.c25) ?_
  refine rgT 4 ?_
  refine rgK 5 (fun w' hSw=>hSw.c1) ?_
  refine rgV 6 (.int .i64 c0) ?_ ?_
  ·(intro w' hSw;exact zaX (.tmp 12) (.tmp 14) rfl rfl rfl hSw.mp hKW HAT.out)
  refine rgT 7 ?_
  refine rgT 8 ?_
  refine wpAnyH_done (by kernel_rfl) ?_ _
  have k0:=hHeld.c0
  have k1:=hHeld.c1
  have W1:=hide hHeld.bl
  have B1:=hide hHeld.bx
  clear hHeld ST
  generalize w1.drew=w2 at *
  go_wp2_with fail
  refine (HFH.out w2 W1.out).mono ?_
  rintro e w3 ⟨rfl,hb3⟩
  have B3:=hide (B1.out.over hb3)
  have W3:=hide (zaa W1.out hb3 (Nat.le_refl _))
  have k3:w3.cell? ⟨w.heap.size,0,none⟩=some (.int .i64 F):=B3.out.cell 0
  have k4:w3.cell? ⟨w.heap.size,1,none⟩=some (.int .i64 K):=B3.out.cell 1
  clear hb3 k0 k1
  go_wp2_with fail
  go_ret
  exact ⟨rfl,W3.out⟩
end
end Go.Proofs.YtookpplebikfnaaGreatDoor
