/-
  Multicast routes as values and as blocks: their cells, loads of a whole one and of its parts, and when two are equal. No condition.
  '==' at routes. No condition.
-/
import Derived.Test.YtblnkbfbhlhgkaaGreatDoorKHAO
set_option linter.unusedVariables false
set_option linter.unusedSimpArgs false
namespace Go.Proofs.YtblnkbfbhlhgkaaGreatDoor
section
open Go.RowKit
def mroL (m:Mr):List Value :=
 [.int .i64 m.k]++(bvs m.rd++([.int .i64 m.a]++((.int .i64 m.ss::bvs m.sb)++((.int .i64 m.gs::bvs m.gb)++((.int .i64 m.fs::bvs m.fb)++[.string ⟨m.key.toArray⟩])))))
def mroC (m:Mr):Array Value:=(mroL m).toArray
section
variable {m:Mr}
theorem zbk (w:m.W):(mroC m).size=62:=by simp [mroC,mroL,bvs,w.rd,w.sb,w.gb,w.fb]
theorem zhE:∃ p r,mroL m=p++(bvs m.rd++r)∧p.length=1:=⟨[.int .i64 m.k],_,rfl,rfl⟩
theorem znd (w:m.W):∃ p r,mroL m=p++([.int .i64 m.a]++r)∧p.length=9:=⟨[.int .i64 m.k]++bvs m.rd,_,by simp only [mroL,List.append_assoc];rfl,by simp [bvs,w.rd]⟩
theorem ziW (w:m.W):∃ p r,mroL m=p++((.int .i64 m.ss::bvs m.sb)++r)∧p.length=10 :=
 ⟨[.int .i64 m.k]++(bvs m.rd++[.int .i64 m.a]),_,by simp only [mroL,List.append_assoc];rfl,by simp [bvs,w.rd]⟩
theorem ziX (w:m.W):∃ p r,mroL m=p++((.int .i64 m.gs::bvs m.gb)++r)∧p.length=27 :=
 ⟨[.int .i64 m.k]++(bvs m.rd++([.int .i64 m.a]++(.int .i64 m.ss::bvs m.sb))),_,by simp only [mroL,List.append_assoc];rfl,by simp [bvs,w.rd,w.sb]⟩
theorem ziY (w:m.W):∃ p r,mroL m=p++((.int .i64 m.fs::bvs m.fb)++r)∧p.length=44 :=
 ⟨[.int .i64 m.k]++(bvs m.rd++([.int .i64 m.a]++((.int .i64 m.ss::bvs m.sb)++(.int .i64 m.gs::bvs m.gb)))),_,by simp only [mroL,List.append_assoc];rfl,by simp [bvs,w.rd,w.sb,w.gb]⟩
theorem znc (w:m.W):∃ p r,mroL m=p++([.string ⟨m.key.toArray⟩]++r)∧p.length=61 :=
 ⟨[.int .i64 m.k]++(bvs m.rd++([.int .i64 m.a]++((.int .i64 m.ss::bvs m.sb)++((.int .i64 m.gs::bvs m.gb)++(.int .i64 m.fs::bvs m.fb))))),[],by simp only [mroL,List.append_assoc,List.append_nil],by simp [bvs,w.rd,w.sb,w.gb,w.fb]⟩
theorem ze8:(mroC m)[0]?=some (.int .i64 m.k):=rfl
theorem zvf (w:m.W):(mroC m)[9]?=some (.int .i64 m.a):=by
 obtain ⟨p,r,h,hp⟩:=znd w
 exact (List.getElem?_toArray).trans (zhF (j:=0) h hp rfl)
theorem zhg (w:m.W):(mroC m)[61]?=some (.string ⟨m.key.toArray⟩):=by
 obtain ⟨p,r,h,hp⟩:=znc w
 exact (List.getElem?_toArray).trans (zhF (j:=0) h hp rfl)
theorem zrW:(mroC m).all (·.oneCell')=true:=by
 rw [Array.all_eq_true_iff_forall_mem]
 intro u hu
 simp only [mroC,mroL,List.mem_toArray,List.mem_cons,List.mem_append,List.not_mem_nil,or_false] at hu
 rcases hu with rfl | hu | rfl | (rfl | hu) | (rfl | hu) | (rfl | hu) | rfl
 ·rfl
 ·exact zb9 _ u hu
 ·rfl
 ·rfl
 ·exact zb9 _ u hu
 ·rfl
 ·exact zb9 _ u hu
 ·rfl
 ·exact zb9 _ u hu
 ·rfl
theorem zgB {p q r:List Value} {n:Nat} {x:World} {g:Nat} {t:TypeId} (h:Blk x g t (mroC m)) (hs:mroL m=p++(q++r)) (hp:p.length=n):x.rangeAt g n q :=
 fun j u hu=>by
  rw [h.cell]
  exact (List.getElem?_toArray).trans (zhF hs hp hu)
theorem mro_rd (w:m.W) {x:World} {g:Nat} {t:TypeId} (h:Blk x g t (mroC m)):x.rangeAt g 1 (bvs m.rd):=by
 obtain ⟨p,r,hs,hp⟩:=zhE (m:=m)
 exact zgB h hs hp
theorem zwo (w:m.W) {x:World} {g:Nat} {t:TypeId} (h:Blk x g t (mroC m)):x.rangeAt g 10 (.int .i64 m.ss::bvs m.sb):=by
 obtain ⟨p,r,hs,hp⟩:=ziW w
 exact zgB h hs hp
theorem zwp (w:m.W) {x:World} {g:Nat} {t:TypeId} (h:Blk x g t (mroC m)):x.rangeAt g 27 (.int .i64 m.gs::bvs m.gb):=by
 obtain ⟨p,r,hs,hp⟩:=ziX w
 exact zgB h hs hp
theorem mro_f (w:m.W) {x:World} {g:Nat} {t:TypeId} (h:Blk x g t (mroC m)):x.rangeAt g 44 (.int .i64 m.fs::bvs m.fb):=by
 obtain ⟨p,r,hs,hp⟩:=ziY w
 exact zgB h hs hp
end
section
variable {ops:Array Oper} {rest:List Oper} {o:Oper} {a:Act} {w:World} {Q:Exit→Act→World→Prop} {m:Mr}
theorem zh9 {g:Nat} {t:TypeId} (h:Blk w g t (mroC m)) (hm:m.W):(loadVar 97 ⟨g,0,none⟩).run Tryz.prog w = .ok (.agg (mroC m)) w :=
 run_loadVar_row w g t 97 (mroC m) (0,0) _ h Tryz.underlying97 rfl (by rw [zbk hm];kernel_rfl)
theorem zaC (hw:Region.wanted o (yielded ops a.tmps)=true) (x:Operand) (ho:o.op = .load 97 x)
  (g:Nat) (hx:a.eval x = .pointer (some ⟨g,0,none⟩)) {t:TypeId} (h:Blk w g t (mroC m)) (hm:m.W)
  (hk:wpList Tryz.prog ops Q rest (a.put o.dst (.agg (mroC m))) w):wpList Tryz.prog ops Q (o::rest) a w:=by
 unfold wpList
 rw [if_pos hw]
 exact .inl (wp_load_row 97 x ho g hx t (mroC m) (0,0) _ h Tryz.underlying97 rfl (by rw [zbk hm];kernel_rfl) hk)
theorem zeI (x:Operand) (ho:o.op = .load 97 x)
  (g:Nat) (hx:a.eval x = .pointer (some ⟨g,0,none⟩)) {t:TypeId} (h:Blk w g t (mroC m)) (hm:m.W) :
  (execOp a.eval o).run Tryz.prog w = .ok (.value (.agg (mroC m))) w:=by
 unfold execOp
 simp only [ho,hx,Instr.loadAt,Instr.sureAddr,Sem.run_bind,Sem.run_pure,Result.andThen_ok,zh9 h hm]
theorem zap (hgd:o.guard=none) (x y:Operand) (ho:o.op = .store 97 x y)
  (g:Nat) (hx:a.eval x = .pointer (some ⟨g,0,none⟩)) (hy:a.eval y = .agg (mroC m)) (hm:m.W) {t:TypeId} {old:Array Value} (h:Blk w g t old) (hold:old.size=62)
  (hk:∀ w',Blk w' g t (mroC m)→w.grownBy w' (some g)→wpList Tryz.prog ops Q rest (a.put o.dst undef) w'):wpList Tryz.prog ops Q (o::rest) a w :=
 wpList_store_row hgd 97 x y ho g (mroC m) hx hy t old h (by rw [zbk hm];kernel_rfl) (by rw [zbk hm,hold]) zrW (hk _ (h.setRow _) (zaL _ _ _))
end
def zgr (m o:Mr):Bool :=
 decide (m.k=o.k)&&(decide (m.rd=o.rd)&&(decide (m.a=o.a)&&(decide (m.ss=o.ss∧m.sb=o.sb)&&(decide (m.gs=o.gs∧m.gb=o.gb)&&(decide (m.fs=o.fs∧m.fb=o.fb)&&(decide (m.key=o.key)&&true))))))
theorem zei (m o:Mr):zgr m o=true↔m=o:=by
 unfold zgr
 simp only [Bool.and_eq_true,decide_eq_true_eq,and_true]
 constructor
 ·rintro ⟨h1,h2,h3,⟨h4,h5⟩,⟨h6,h7⟩,⟨h8,h9⟩,h10⟩
  cases m;cases o
  simp_all
 ·rintro rfl
  simp
open Go.RowKit
theorem zh8 {m:Mr} {p q r:List Value} {n k:Nat} (h:mroL m=p++(q++r)) (hp:p.length=n) (hq:q.length=k):(mroC m).extract n (n+k)=q.toArray:=by
 unfold mroC
 rw [List.extract_toArray,List.extract_eq_take_drop,show n+k-n=k by omega,zrY h hp hq]
set_option maxRecDepth 100000 in
set_option maxHeartbeats 400000 in
theorem zve (w:World) (d:Nat) {m o:Mr} (hm:m.W) (ho:o.W) :
  (Op.equalIn (d+4) 97 (.agg (mroC m)) (.agg (mroC o))).run Tryz.prog w = .ok (zgr m o) w:=by
 have hS:Tryz.prog.underlying 97=some (.struct (Tryz.prog.fieldsOf 97)):=by kernel_rfl
 have hp:Tryz.prog.stoodInHeld 97=false:=by kernel_rfl
 have a3:=Tryz.isAgg3
 have a9:=Tryz.isAgg9
 have a23:=Tryz.isAgg95
 have s23:=Tryz.sizeOf95
 have a26:=Tryz.isAgg25
 have s26:=Tryz.sizeOf25
 have p0:∀ {m:Mr},m.W→(part 3 (mroC m) 0).run Tryz.prog w = .ok (.int .i64 m.k) w:=fun {m} hm=>by
  have:=ze8 (m:=m)
  simp [part,a3,this]
 have p1:∀ {m:Mr},m.W→(part 95 (mroC m) 1).run Tryz.prog w = .ok (.agg (rdC m.rd)) w:=fun {m} hm=>by
  obtain ⟨p,r,hs,hl⟩:=zhE (m:=m)
  have:=zh8 (k:=8) hs hl (by rw [zbq,hm.rd])
  simp [part,a23,s23,this,zhC]
 have p2:∀ {m:Mr},m.W→(part 3 (mroC m) 9).run Tryz.prog w = .ok (.int .i64 m.a) w:=fun {m} hm=>by
  have:=zvf hm
  simp [part,a3,this]
 have p3:∀ {m:Mr},m.W→(part 25 (mroC m) 10).run Tryz.prog w = .ok (.agg (zar m.ss m.sb)) w:=fun {m} hm=>by
  obtain ⟨p,r,hs,hl⟩:=ziW hm
  have:=zh8 (k:=17) hs hl (by simp [bvs,hm.sb])
  simp [part,a26,s26,this,zed]
 have p4:∀ {m:Mr},m.W→(part 25 (mroC m) 27).run Tryz.prog w = .ok (.agg (zar m.gs m.gb)) w:=fun {m} hm=>by
  obtain ⟨p,r,hs,hl⟩:=ziX hm
  have:=zh8 (k:=17) hs hl (by simp [bvs,hm.gb])
  simp [part,a26,s26,this,zed]
 have p5:∀ {m:Mr},m.W→(part 25 (mroC m) 44).run Tryz.prog w = .ok (.agg (zar m.fs m.fb)) w:=fun {m} hm=>by
  obtain ⟨p,r,hs,hl⟩:=ziY hm
  have:=zh8 (k:=17) hs hl (by simp [bvs,hm.fb])
  simp [part,a26,s26,this,zed]
 have p6:∀ {m:Mr},m.W→(part 9 (mroC m) 61).run Tryz.prog w = .ok (.string ⟨m.key.toArray⟩) w:=fun {m} hm=>by
  have:=zhg hm
  simp [part,a9,this]
 have e0:=(run_equalIn_int (P:=Tryz.prog) w (d+2) 3 .i64 .i64 m.k o.k Tryz.underlying3)
 have e1:=run_equalIn_bytes (P:=Tryz.prog) w (d+1) 95 5 8 Tryz.underlying95 Tryz.underlying5 Tryz.sizeOf5 m.rd o.rd hm.rd ho.rd
 have e2:=(run_equalIn_int (P:=Tryz.prog) w (d+2) 3 .i64 .i64 m.a o.a Tryz.underlying3)
 have e3:=zhp w d m.ss o.ss m.sb o.sb hm.sb ho.sb
 have e4:=zhp w d m.gs o.gs m.gb o.gb hm.gb ho.gb
 have e5:=zhp w d m.fs o.fs m.fb o.fb hm.fb ho.fb
 have e6:=run_equalIn_string (P:=Tryz.prog) w (d+2) 9 ⟨m.key.toArray⟩ ⟨o.key.toArray⟩ Tryz.underlying9
 rw [zmr] at e6
 rw [run_equalIn_agg w (d+3) 97 _ _ hS hp]
 simp only [Program.fieldsOf,Tryz.underlying97]
 have hq:((m.k==o.k)&&((m.rd==o.rd)&&((m.a==o.a)&&(decide (m.ss=o.ss∧m.sb=o.sb)&&(decide (m.gs=o.gs∧m.gb=o.gb)&&(decide (m.fs=o.fs∧m.fb=o.fb)&&(decide (m.key=o.key)&&true)))))))=zgr m o:=by
  unfold zgr
  by_cases h1:m.k=o.k <;> by_cases h2:m.rd=o.rd <;> by_cases h3:m.a=o.a <;> simp [h1,h2,h3]
 rw [← hq]
 refine zbv w (d+3) (of_decide_eq_true (by kernel_rfl)) (p0 hm) (p0 ho) e0 ?_
 refine zbv w (d+3) (of_decide_eq_true (by kernel_rfl)) (p1 hm) (p1 ho) e1 ?_
 refine zbv w (d+3) (of_decide_eq_true (by kernel_rfl)) (p2 hm) (p2 ho) e2 ?_
 refine zbv w (d+3) (of_decide_eq_true (by kernel_rfl)) (p3 hm) (p3 ho) e3 ?_
 refine zbv w (d+3) (of_decide_eq_true (by kernel_rfl)) (p4 hm) (p4 ho) e4 ?_
 refine zbv w (d+3) (of_decide_eq_true (by kernel_rfl)) (p5 hm) (p5 ho) e5 ?_
 refine zbv w (d+3) (of_decide_eq_true (by kernel_rfl)) (p6 hm) (p6 ho) e6 ?_
 exact zhM w (d+3)
theorem zwE {m o:Mr} (hm:m.W) (ho:o.W) (w:World):(binOp .eql 97 (.agg (mroC m)) (.agg (mroC o))).run Tryz.prog w = .ok (.bool (zgr m o)) w:=by
 rw [run_eql_struct,zve w 9996 hm ho]
 rfl
theorem zwm {m o:Mr} (hm:m.W) (ho:o.W) (w:World):(binOp .neq 97 (.agg (mroC m)) (.agg (mroC o))).run Tryz.prog w = .ok (.bool (!zgr m o)) w:=by
 rw [run_neq_struct,zve w 9996 hm ho]
 rfl
theorem zmj {o:Oper} {a:Act} {w:World} (x y:Operand) (ho:o.op = .binOp .eql 97 x y 97) {m n:Mr} (hx:a.eval x = .agg (mroC m)) (hy:a.eval y = .agg (mroC n)) (hm:m.W) (hn:n.W) :
  (execOp a.eval o).run Tryz.prog w = .ok (.value (.bool (zgr m n))) w:=by
 have hg:Tryz.prog.eqGuardType Tryz.prog.depth 97=false:=by kernel_rfl
 have hg':=run_eqGuard_agg (P:=Tryz.prog) w .eql 97 x y (mroC m) (mroC n) hg
 unfold execOp
 simp only [ho,hx,hy,Sem.run_bind,hg',Result.andThen_ok,zwE hm hn,Sem.run_pure]
theorem zhI {o:Oper} {a:Act} {w:World} (x y:Operand) (ho:o.op = .binOp .neq 97 x y 97) {m n:Mr} (hx:a.eval x = .agg (mroC m)) (hy:a.eval y = .agg (mroC n)) (hm:m.W) (hn:n.W) :
  (execOp a.eval o).run Tryz.prog w = .ok (.value (.bool (!zgr m n))) w:=by
 have hg:Tryz.prog.eqGuardType Tryz.prog.depth 97=false:=by kernel_rfl
 have hg':=run_eqGuard_agg (P:=Tryz.prog) w .neq 97 x y (mroC m) (mroC n) hg
 unfold execOp
 simp only [ho,hx,hy,Sem.run_bind,hg',Result.andThen_ok,zwm hm hn,Sem.run_pure]
end
end Go.Proofs.YtblnkbfbhlhgkaaGreatDoor
