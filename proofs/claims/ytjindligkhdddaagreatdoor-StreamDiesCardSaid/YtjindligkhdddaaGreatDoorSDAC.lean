/-
  Addresses and prefixes as values and as blocks: their cells, and when two are equal. No condition.
  '==' at addresses and prefixes, as a step of the walk. No condition.
  What Right, Bytes, Of, Compare and Multicast of package addr do, in whatever memory. No condition beyond sizes that fit memory.
  What Of, mask, Cut and Has of package addr do, in whatever memory. No condition beyond sizes that fit memory.
  What Cut (all inputs) and Has of package addr do, in whatever memory. No condition.
-/
import Derived.Stop.BytesEq
import Derived.StillTailTactics
import Derived.Great.BuildSlice
import Derived.Test.YtjindligkhdddaaGreatDoorSDAB
set_option linter.unusedVariables false
set_option linter.unusedSimpArgs false
namespace Go.Proofs.YtjindligkhdddaaGreatDoor
section
set_option maxRecDepth 20000
set_option maxHeartbeats 1000000
open Go.RowKit
def zas (s:Int) (bs:List UInt8):Array Value:=(.int .i64 s::bvs bs).toArray
def zby (s:Int) (bs:List UInt8) (k:Int):Array Value:=(.int .i64 s::(bvs bs++[.int .i64 k])).toArray
theorem zcs (s:Int) {bs:List UInt8} (h:bs.length=16):(zas s bs).size=17:=by simp [zas,bvs,h]
theorem zfo (s:Int) {bs:List UInt8} (k:Int) (h:bs.length=16):(zby s bs k).size=18:=by simp [zby,bvs,h]
theorem zf4 (s:Int) (bs:List UInt8):(zas s bs)[0]?=some (.int .i64 s):=by simp [zas]
theorem zhd (s:Int) {bs:List UInt8} {i:Nat} {b:UInt8} (h:bs[i]?=some b):(zas s bs)[1+i]?=some (.int .u8 (b.toNat:Int)):=by
 rw [Nat.add_comm]
 simp [zas,bvs,h,bv]
theorem zkR (s:Int) {bs:List UInt8} (k:Int) (h:bs.length=16):(zby s bs k)[17]?=some (.int .i64 k):=by
 simp [zby,bvs,h,List.getElem?_append]
theorem At.addr {w:World} {g:Nat} {t:TypeId} {s:Int} {bs:List UInt8} (h:Blk w g t (zas s bs)) (hl:bs.length=16):At w g (g+1) (some ⟨g,1,none⟩) 16 bs :=
 ⟨hl,fun _=>⟨_,1,rfl,Nat.le_refl _,by omega,fun j u hu=>by rw [h.cell];exact zhd s hu⟩⟩
theorem zq9 (s:Int) {bs:List UInt8} (h:bs.length=16):(zas s bs).extract 1 17=(bs.map Extern.Stop.cell).toArray:=by
 simp only [zas,List.extract_toArray]
 congr 1
 simp only [List.extract_eq_take_drop,List.drop_succ_cons,List.drop_zero]
 rw [List.take_of_length_le (by simp [bvs,h])]
 rfl
theorem zqd (s:Int) {bs:List UInt8} (k:Int) (h:bs.length=16):(zby s bs k).extract 0 17=zas s bs:=by
 simp only [zby,zas,List.extract_toArray]
 congr 1
 simp only [List.extract_eq_take_drop,List.drop_zero]
 have e:(Value.int IntKind.i64 s::(bvs bs++[Value.int IntKind.i64 k]))=(Value.int IntKind.i64 s::bvs bs)++[Value.int IntKind.i64 k]:=rfl
 rw [e,List.take_append_of_le_length (by simp [bvs,h]),List.take_of_length_le (by simp [bvs,h])]
theorem zhA {P:Program} (w:World) (d:Nat) {xs ys:Array Value} {f g:Field} {a b c e:Value} {r1 r2:Bool} (hf:f.name ≠ "_") (hg:g.name ≠ "_")
  (h1:(part f.type xs f.offset).run P w = .ok a w) (h2:(part f.type ys f.offset).run P w = .ok b w) (h3:(Op.equalIn d f.type a b).run P w = .ok r1 w)
  (h4:(part g.type xs g.offset).run P w = .ok c w) (h5:(part g.type ys g.offset).run P w = .ok e w) (h6:(Op.equalIn d g.type c e).run P w = .ok r2 w) :
  (Op.eqFields d xs ys [f,g]).run P w = .ok (r1&&r2) w:=by
 simp only [Op.eqFields,if_pos hf,if_pos hg,Sem.run_bind,h1,h2,h3,Result.andThen_ok]
 cases r1
 ·simp
 ·simp only [Bool.not_true,Bool.false_eq_true,if_false,Sem.run_bind,h4,h5,h6,Result.andThen_ok]
  cases r2 <;> simp
set_option maxRecDepth 100000 in
theorem zhc (w:World) (d:Nat) (s t:Int) (xs ys:List UInt8) (hx:xs.length=16) (hy:ys.length=16) :
  (Op.equalIn (d+3) 40 (.agg (zas s xs)) (.agg (zas t ys))).run Tryz.prog w = .ok (decide (s=t∧xs=ys)) w:=by
 have hS:Tryz.prog.underlying 40=some (.struct (Tryz.prog.fieldsOf 40)):=by kernel_rfl
 have hp:Tryz.prog.stoodInHeld 40=false:=by kernel_rfl
 have pa:∀ (s:Int) (xs:List UInt8),xs.length=16→(part 38 (zas s xs) 1).run Tryz.prog w = .ok (.agg (xs.map Extern.Stop.cell).toArray) w:=fun s xs hx=>by
  have a22:=Tryz.isAgg38
  have s22:=Tryz.sizeOf38
  simp [part,a22,s22,zq9 s hx]
 have pi:∀ (s:Int) (xs:List UInt8),(part 3 (zas s xs) 0).run Tryz.prog w = .ok (.int .i64 s) w:=fun s xs=>by
  have a3:=Tryz.isAgg3
  simp [part,a3,zf4]
 have eb:=run_equalIn_bytes (P:=Tryz.prog) w d 38 5 16 Tryz.underlying38 Tryz.underlying5 Tryz.sizeOf5 xs ys hx hy
 have ei:=run_equalIn_int (P:=Tryz.prog) w (d+1) 3 .i64 .i64 s t Tryz.underlying3
 rw [run_equalIn_agg w (d+2) 40 _ _ hS hp]
 simp only [Program.fieldsOf,Tryz.underlying40]
 refine (zhA w (d+2) (of_decide_eq_true (by kernel_rfl)) (of_decide_eq_true (by kernel_rfl)) (pi s xs) (pi t ys) ei (pa s xs hx) (pa t ys hy) eb).trans ?_
 by_cases h1:s=t <;> by_cases h2:xs=ys <;> simp [h1,h2]
set_option maxRecDepth 100000 in
theorem zsr (w:World) (d:Nat) (s t k m:Int) (xs ys:List UInt8) (hx:xs.length=16) (hy:ys.length=16) :
  (Op.equalIn (d+4) 234 (.agg (zby s xs k)) (.agg (zby t ys m))).run Tryz.prog w = .ok (decide (s=t∧xs=ys∧k=m)) w:=by
 have hS:Tryz.prog.underlying 234=some (.struct (Tryz.prog.fieldsOf 234)):=by kernel_rfl
 have hp:Tryz.prog.stoodInHeld 234=false:=by kernel_rfl
 have pa:∀ (s:Int) (xs:List UInt8) (k:Int),xs.length=16→(part 40 (zby s xs k) 0).run Tryz.prog w = .ok (.agg (zas s xs)) w:=fun s xs k hx=>by
  have a22:=Tryz.isAgg40
  have s22:=Tryz.sizeOf40
  simp [part,a22,s22,zqd s k hx]
 have pi:∀ (s:Int) (xs:List UInt8) (k:Int),xs.length=16→(part 3 (zby s xs k) 17).run Tryz.prog w = .ok (.int .i64 k) w:=fun s xs k hx=>by
  have a3:=Tryz.isAgg3
  simp [part,a3,zkR s k hx]
 have eb:=zhc w d s t xs ys hx hy
 have ei:=run_equalIn_int (P:=Tryz.prog) w (d+2) 3 .i64 .i64 k m Tryz.underlying3
 rw [run_equalIn_agg w (d+3) 234 _ _ hS hp]
 simp only [Program.fieldsOf,Tryz.underlying234]
 refine (zhA w (d+3) (of_decide_eq_true (by kernel_rfl)) (of_decide_eq_true (by kernel_rfl)) (pa s xs k hx) (pa t ys m hy) eb (pi s xs k hx) (pi t ys m hy) ei).trans ?_
 by_cases h1:s=t <;> by_cases h2:xs=ys <;> by_cases h3:k=m <;> simp [h1,h2,h3]
theorem zmx {w:World} {g:Nat} {t:TypeId} {s:Int} {bs:List UInt8} (h:Blk w g t (zas s bs)) (hl:bs.length=16):(loadVar 40 ⟨g,0,none⟩).run Tryz.prog w = .ok (.agg (zas s bs)) w :=
 run_loadVar_row w g t 40 (zas s bs) (0,0) _ h Tryz.underlying40 rfl (by rw [zcs s hl];kernel_rfl)
theorem zs0 {w:World} {g:Nat} {t:TypeId} {s k:Int} {bs:List UInt8} (h:Blk w g t (zby s bs k)) (hl:bs.length=16):(loadVar 234 ⟨g,0,none⟩).run Tryz.prog w = .ok (.agg (zby s bs k)) w :=
 run_loadVar_row w g t 234 (zby s bs k) (0,0) _ h Tryz.underlying234 rfl (by rw [zfo s k hl];kernel_rfl)
theorem zaI {ops:Array Oper} {rest:List Oper} {o:Oper} {a:Act} {w:World} {Q:Exit→Act→World→Prop} (hgd:o.guard=none) (x:Operand) (ho:o.op = .load 40 x)
  (g:Nat) (hx:a.eval x = .pointer (some ⟨g,0,none⟩)) {t:TypeId} {s:Int} {bs:List UInt8} (h:Blk w g t (zas s bs)) (hl:bs.length=16)
  (hk:wpList Tryz.prog ops Q rest (a.put o.dst (.agg (zas s bs))) w):wpList Tryz.prog ops Q (o::rest) a w :=
 wpList_load_row hgd 40 x ho g hx t (zas s bs) (0,0) _ h Tryz.underlying40 rfl (by rw [zcs s hl];kernel_rfl) hk
theorem zdR {ops:Array Oper} {rest:List Oper} {o:Oper} {a:Act} {w:World} {Q:Exit→Act→World→Prop} (hw:Region.wanted o (yielded ops a.tmps)=true) (x:Operand) (ho:o.op = .load 40 x)
  (g:Nat) (hx:a.eval x = .pointer (some ⟨g,0,none⟩)) {t:TypeId} {s:Int} {bs:List UInt8} (h:Blk w g t (zas s bs)) (hl:bs.length=16)
  (hk:wpList Tryz.prog ops Q rest (a.put o.dst (.agg (zas s bs))) w):wpList Tryz.prog ops Q (o::rest) a w:=by
 unfold wpList
 rw [if_pos hw]
 exact .inl (wp_load_row 40 x ho g hx t (zas s bs) (0,0) _ h Tryz.underlying40 rfl (by rw [zcs s hl];kernel_rfl) hk)
theorem zdP {ops:Array Oper} {rest:List Oper} {o:Oper} {a:Act} {w:World} {Q:Exit→Act→World→Prop} (hw:Region.wanted o (yielded ops a.tmps)=true) (x:Operand) (ho:o.op = .load 234 x)
  (g:Nat) (hx:a.eval x = .pointer (some ⟨g,0,none⟩)) {t:TypeId} {s k:Int} {bs:List UInt8} (h:Blk w g t (zby s bs k)) (hl:bs.length=16)
  (hk:wpList Tryz.prog ops Q rest (a.put o.dst (.agg (zby s bs k))) w):wpList Tryz.prog ops Q (o::rest) a w:=by
 unfold wpList
 rw [if_pos hw]
 exact .inl (wp_load_row 234 x ho g hx t (zby s bs k) (0,0) _ h Tryz.underlying234 rfl (by rw [zfo s k hl];kernel_rfl) hk)
theorem zm4 (s:Int) (bs:List UInt8):(zas s bs).all (·.oneCell')=true:=by
 rw [Array.all_eq_true_iff_forall_mem]
 intro v hv
 simp only [zas,List.mem_toArray,List.mem_cons] at hv
 rcases hv with rfl | hv
 ·rfl
 ·exact zbI bs v hv
theorem zst (s:Int) (bs:List UInt8) (k:Int):(zby s bs k).all (·.oneCell')=true:=by
 rw [Array.all_eq_true_iff_forall_mem]
 intro v hv
 simp only [zby,List.mem_toArray,List.mem_cons,List.mem_append,List.not_mem_nil,or_false] at hv
 rcases hv with rfl | hv | rfl
 ·rfl
 ·exact zbI bs v hv
 ·rfl
theorem zav (w:World) (g:Nat) (cs:Array Value):w.grownBy (w.setRow g cs) (some g) :=
 ⟨rfl,rfl,rfl,by simp [World.setRow],fun k _ hk=>setRow_other w g k cs (fun e=>hk (by rw [e]))⟩
theorem Blk.setRow {w:World} {g:Nat} {t:TypeId} {old:Array Value} (h:Blk w g t old) (cs:Array Value):Blk (w.setRow g cs) g t cs:=setRow_heap w g old cs t _ h
theorem zaG {ops:Array Oper} {rest:List Oper} {o:Oper} {a:Act} {w:World} {Q:Exit→Act→World→Prop} (hgd:o.guard=none) (x y:Operand) (ho:o.op = .store 40 x y)
  (g:Nat) (hx:a.eval x = .pointer (some ⟨g,0,none⟩)) {s:Int} {bs:List UInt8} (hy:a.eval y = .agg (zas s bs)) (hl:bs.length=16) {t:TypeId} {old:Array Value} (h:Blk w g t old) (hold:old.size=17)
  (hk:∀ w',Blk w' g t (zas s bs)→w.grownBy w' (some g)→wpList Tryz.prog ops Q rest (a.put o.dst undef) w'):wpList Tryz.prog ops Q (o::rest) a w :=
 wpList_store_row hgd 40 x y ho g (zas s bs) hx hy t old h (by rw [zcs s hl];kernel_rfl) (by rw [zcs s hl,hold]) (zm4 s bs) (hk _ (h.setRow _) (zav _ _ _))
theorem zc1 {ops:Array Oper} {rest:List Oper} {o:Oper} {a:Act} {w:World} {Q:Exit→Act→World→Prop} (hgd:o.guard=none) (x y:Operand) (ho:o.op = .store 234 x y)
  (g:Nat) (hx:a.eval x = .pointer (some ⟨g,0,none⟩)) {s k:Int} {bs:List UInt8} (hy:a.eval y = .agg (zby s bs k)) (hl:bs.length=16) {t:TypeId} {old:Array Value} (h:Blk w g t old) (hold:old.size=18)
  (hk:∀ w',Blk w' g t (zby s bs k)→w.grownBy w' (some g)→wpList Tryz.prog ops Q rest (a.put o.dst undef) w'):wpList Tryz.prog ops Q (o::rest) a w :=
 wpList_store_row hgd 234 x y ho g (zby s bs k) hx hy t old h (by rw [zfo s k hl];kernel_rfl) (by rw [zfo s k hl,hold]) (zst s bs k) (hk _ (h.setRow _) (zav _ _ _))
theorem zmc {fn:Func} {R:Ending→World→Prop} {a:Act} {w:World} {p q:Tmp} {g:Nat} {t:TypeId} {s:Int} {bs:List UInt8} {v:Value} (hf:fn.results=#[.cell p 40,.tmp q])
  (hp:a.tmps.getD p undef = .pointer (some ⟨g,0,none⟩)) (hq:a.tmps.getD q undef=v) (h:Blk w g t (zas s bs)) (hl:bs.length=16) (hd:a.defers=[]) (hR:R (.returned (.tuple #[.agg (zas s bs),v])) w) :
  bodyPost Tryz.prog fn R .ret a w:=by
 refine bodyPost_ret (v:=.tuple #[.agg (zas s bs),v]) ?_ hd hR
 have hp':a.tmps[p]?.getD undef = .pointer (some ⟨g,0,none⟩):=by simpa using hp
 have hq':a.tmps[q]?.getD undef=v:=by simpa using hq
 simp [results,hf,hp',hq',asAddr,zmx h hl]
theorem zma {fn:Func} {R:Ending→World→Prop} {a:Act} {w:World} {p q:Tmp} {g:Nat} {t:TypeId} {s k:Int} {bs:List UInt8} {v:Value} (hf:fn.results=#[.cell p 234,.tmp q])
  (hp:a.tmps.getD p undef = .pointer (some ⟨g,0,none⟩)) (hq:a.tmps.getD q undef=v) (h:Blk w g t (zby s bs k)) (hl:bs.length=16) (hd:a.defers=[]) (hR:R (.returned (.tuple #[.agg (zby s bs k),v])) w) :
  bodyPost Tryz.prog fn R .ret a w:=by
 refine bodyPost_ret (v:=.tuple #[.agg (zby s bs k),v]) ?_ hd hR
 have hp':a.tmps[p]?.getD undef = .pointer (some ⟨g,0,none⟩):=by simpa using hp
 have hq':a.tmps[q]?.getD undef=v:=by simpa using hq
 simp [results,hf,hp',hq',asAddr,zs0 h hl]
theorem ziF {fn:Func} {R:Ending→World→Prop} {a:Act} {w:World} {p:Tmp} {g:Nat} {t:TypeId} {s:Int} {bs:List UInt8} (hf:fn.results=#[.cell p 40])
  (hp:a.tmps.getD p undef = .pointer (some ⟨g,0,none⟩)) (h:Blk w g t (zas s bs)) (hl:bs.length=16) (hd:a.defers=[]) (hR:R (.returned (.agg (zas s bs))) w) :
  bodyPost Tryz.prog fn R .ret a w:=by
 refine bodyPost_ret (v:=.agg (zas s bs)) ?_ hd hR
 have hp':a.tmps[p]?.getD undef = .pointer (some ⟨g,0,none⟩):=by simpa using hp
 simp [results,hf,hp',asAddr,zmx h hl]
theorem zbb:zat.length=16:=rfl
theorem zeg (s:Int):zas s zat=#[.int .i64 s,.int .u8 0,.int .u8 0,.int .u8 0,.int .u8 0,.int .u8 0,.int .u8 0,.int .u8 0,.int .u8 0,.int .u8 0,.int .u8 0,.int .u8 0,.int .u8 0,.int .u8 0,.int .u8 0,.int .u8 0,.int .u8 0]:=by kernel_rfl
theorem zkc (s k:Int):zby s zat k=#[.int .i64 s,.int .u8 0,.int .u8 0,.int .u8 0,.int .u8 0,.int .u8 0,.int .u8 0,.int .u8 0,.int .u8 0,.int .u8 0,.int .u8 0,.int .u8 0,.int .u8 0,.int .u8 0,.int .u8 0,.int .u8 0,.int .u8 0,.int .i64 k]:=by kernel_rfl
theorem zll (s t:Int) (xs ys:List UInt8) (hx:xs.length=16) (hy:ys.length=16) (w:World) :
  (binOp .eql 40 (.agg (zas s xs)) (.agg (zas t ys))).run Tryz.prog w = .ok (.bool (decide (s=t∧xs=ys))) w:=by
 rw [run_eql_struct,show (10000:Nat)=9997+3 from rfl,zhc w 9997 s t xs ys hx hy]
 rfl
theorem zve (s t:Int) (xs ys:List UInt8) (hx:xs.length=16) (hy:ys.length=16) (w:World) :
  (binOp .neq 40 (.agg (zas s xs)) (.agg (zas t ys))).run Tryz.prog w = .ok (.bool (!decide (s=t∧xs=ys))) w:=by
 rw [run_neq_struct,show (10000:Nat)=9997+3 from rfl,zhc w 9997 s t xs ys hx hy]
 rfl
theorem zvC (s t k m:Int) (xs ys:List UInt8) (hx:xs.length=16) (hy:ys.length=16) (w:World) :
  (binOp .eql 234 (.agg (zby s xs k)) (.agg (zby t ys m))).run Tryz.prog w = .ok (.bool (decide (s=t∧xs=ys∧k=m))) w:=by
 rw [run_eql_struct,show (10000:Nat)=9996+4 from rfl,zsr w 9996 s t k m xs ys hx hy]
 rfl
open Go.RowKit
section
variable {ops:Array Oper} {rest:List Oper} {o:Oper} {a:Act} {w:World} {Q:Exit→Act→World→Prop}
theorem zid (hw:Region.wanted o (yielded ops a.tmps)=true) (x y:Operand) (ho:o.op = .binOp .eql 234 x y 234)
  {s t k m:Int} {xs ys:List UInt8} (hx:a.eval x = .agg (zby s xs k)) (hy:a.eval y = .agg (zby t ys m)) (lx:xs.length=16) (ly:ys.length=16)
  (hk:wpList Tryz.prog ops Q rest (a.put o.dst (.bool (decide (s=t∧xs=ys∧k=m)))) w):wpList Tryz.prog ops Q (o::rest) a w:=by
 unfold wpList
 rw [if_pos hw]
 refine .inl ?_
 have hg:Tryz.prog.eqGuardType Tryz.prog.depth 234=false:=by kernel_rfl
 have hg':=run_eqGuard_agg (P:=Tryz.prog) w .eql 234 x y (zby s xs k) (zby t ys m) hg
 unfold Oper.wp execOp
 simp only [ho,hx,hy,Sem.run_bind,hg',Result.andThen_ok,zvC s t k m xs ys lx ly]
 exact hk
theorem zdz (hw:Region.wanted o (yielded ops a.tmps)=true) (x y:Operand) (ho:o.op = .binOp .eql 40 x y 40)
  {s t:Int} {xs ys:List UInt8} (hx:a.eval x = .agg (zas s xs)) (hy:a.eval y = .agg (zas t ys)) (lx:xs.length=16) (ly:ys.length=16)
  (hk:wpList Tryz.prog ops Q rest (a.put o.dst (.bool (decide (s=t∧xs=ys)))) w):wpList Tryz.prog ops Q (o::rest) a w:=by
 unfold wpList
 rw [if_pos hw]
 refine .inl ?_
 have hg:Tryz.prog.eqGuardType Tryz.prog.depth 40=false:=by kernel_rfl
 have hg':=run_eqGuard_agg (P:=Tryz.prog) w .eql 40 x y (zas s xs) (zas t ys) hg
 unfold Oper.wp execOp
 simp only [ho,hx,hy,Sem.run_bind,hg',Result.andThen_ok,zll s t xs ys lx ly]
 exact hk
end
open Go.RowKit
theorem zcR (w:World) (s:Int) :
  Calls Tryz.prog 78 #[.int .i64 s] w fun e w'=>e = .returned (.bool (zc0 s))∧w=w':=by
 have h:zc0 s=decide (s=0∨s=4∨s=16):=rfl
 by_cases h0:s=0
 ·subst h0
  have h':zc0 0=true:=rfl
  rw [h']
  clear h h'
  go_enter Tryz.func78,Tryz.ntmps78
  go_wp2
  go_ret
  exact ⟨rfl,rfl⟩
 ·by_cases h4:s=4
  ·subst h4
   have h':zc0 4=true:=rfl
   rw [h']
   clear h h' h0
   go_enter Tryz.func78,Tryz.ntmps78
   go_wp2
   go_ret
   exact ⟨rfl,rfl⟩
  ·by_cases h6:s=16
   ·subst h6
    have h':zc0 16=true:=rfl
    rw [h']
    clear h h' h0 h4
    go_enter Tryz.func78,Tryz.ntmps78
    go_wp2
    go_ret
    exact ⟨rfl,rfl⟩
   ·have h':zc0 s=false:=by rw [h];simp [h0,h4,h6]
    rw [h']
    clear h h'
    have e0:(s==0)=false:=by simpa using h0
    have e4:(s==4)=false:=by simpa using h4
    have e6:(s==16)=false:=by simpa using h6
    clear h0 h4 h6
    go_enter Tryz.func78,Tryz.ntmps78
    go_wp2
    go_ret
    exact ⟨rfl,rfl⟩
set_option maxHeartbeats 800000 in
theorem zcQ (w:World) (s:Int) (bs:List UInt8) (hl:bs.length=16) :
  Calls Tryz.prog 44 #[.agg (zas s bs)] w fun e w'=>e = .returned (.bool (zaz s bs))∧Below w.heap.size w w':=by
 have c0:=zf4 s bs
 have HL:=hide hl
 have HA:Hid (At (w.alloc (.cells (zas s bs) 40)) w.heap.size (w.heap.size+1) (some ⟨w.heap.size,1,none⟩) 16 bs):=At.addr (Blk.new w _ _) hl
 clear hl
 by_cases hs:zc0 s=true
 ·have:s=0∨s=4∨s=16:=of_decide_eq_true hs
  have HS:=hide hs
  clear hs
  rcases this with rfl | rfl | rfl
  case' inl =>
   have HAT:Hid (At (w.alloc (.cells (zas 0 bs) 40)) w.heap.size (w.heap.size+1) (some ⟨w.heap.size,1,none⟩) 16 (bs.drop 0)):=HA
   have HR:Hid (zaz 0 bs=(bs.drop 0).all (· == 0)):=by unfold zaz;rw [HS.out];rfl
  case' inr.inl =>
   have HAT:Hid (At (w.alloc (.cells (zas 4 bs) 40)) w.heap.size (w.heap.size+1) (some ⟨w.heap.size,5,none⟩) 12 (bs.drop 4)):=HA.out.tail (k:=4) (c:=16) (by omega) (by omega)
   have HR:Hid (zaz 4 bs=(bs.drop 4).all (· == 0)):=by unfold zaz;rw [HS.out];rfl
  case inr.inr =>
   have hr:zaz 16 bs=true:=by
    unfold zaz
    rw [HS.out,List.drop_of_length_le (by rw [HL.out];decide)]
    rfl
   rw [hr]
   clear hr
   go_enter Tryz.func44,Tryz.ntmps44
   go_wp2_with (go_at_call 78;refine (zcR _ _).mono ?_;rintro e w1 ⟨rfl,rfl⟩;rw [HS.out])
   refine wp_loop_rounds 1 ?_
   rw [rounds_succ]
   go_wp2
   go_ret
   exact ⟨rfl,(Below.refl _ _).alloc (Nat.le_refl _) _⟩
  all_goals
   generalize bs.drop _=zs at HAT HR
   have HLEN:=hide HAT.out.len
   go_enter Tryz.func44,Tryz.ntmps44
   go_wp2_with (go_at_call 78;refine (zcR _ _).mono ?_;rintro e w1 ⟨rfl,rfl⟩;rw [HS.out])
   go_loop [14] (fun i=>∃ k:Nat,k≤zs.length∧i = .int .i64 k∧(zs.take k).all (· == 0)=true) (fun i=>zs.length-(intOf i).toNat)
   case atStart=>exact ⟨0,Nat.zero_le _,rfl,rfl⟩
   case round =>
    obtain ⟨k,hk,rfl,hall⟩:=hrel
    have HALL:=hide hall
    clear hall
    by_cases hlt:k<zs.length
    ·have hlt':=hlt
     rw [HLEN.out] at hlt'
     obtain ⟨b,o,u,hA,hu,hc⟩:=HAT.out.at_ hlt'
     simp only [Option.some.injEq,Addr.mk.injEq,and_true] at hA
     obtain ⟨rfl,rfl⟩:=hA
     have HU:=hide hu
     clear hu hlt
     by_cases hb:u=0
     ·subst hb
      go_wp2
      go_round
      case rel=>exact ⟨k+1,by rw [HLEN.out];omega,by go_num,by rw [zly HU.out,HALL.out];rfl⟩
      case measure=>rw [HLEN.out];simp [intOf];omega
     ·have hb':((u.toNat:Int) != 0)=true:=by
       have:u.toNat≠0:=fun e=>hb (UInt8.toNat_inj.1 e)
       simp;omega
      have HB:=hide hb
      clear hb
      go_wp2
      go_ret
      exact ⟨by rw [HR.out,zt3 HU.out (by simpa using HB.out)];rfl,(Below.refl _ _).alloc (Nat.le_refl _) _⟩
    ·obtain rfl:k=zs.length:=by omega
     rw [List.take_length] at HALL
     have hz:=HLEN.out
     rw [hz]
     have HZ:=hide hz
     clear hz hlt hk
     go_wp2
     go_ret
     exact ⟨by rw [HR.out,HALL.out];rfl,(Below.refl _ _).alloc (Nat.le_refl _) _⟩
 ·have hs':zc0 s=false:=by simpa using hs
  have hr:zaz s bs=false:=by unfold zaz;rw [hs'];rfl
  rw [hr]
  have HS:=hide hs'
  clear hs hs' hr
  go_enter Tryz.func44,Tryz.ntmps44
  go_wp2_with (go_at_call 78;refine (zcR _ _).mono ?_;rintro e w1 ⟨rfl,rfl⟩;rw [HS.out])
  go_ret
  exact ⟨rfl,(Below.refl _ _).alloc (Nat.le_refl _) _⟩
theorem zdg (w:World) (s:Int) (bs:List UInt8) (hl:bs.length=16) :
  Calls Tryz.prog 60 #[.agg (zas s bs)] w fun e w'=>∃ v,e = .returned v∧w'.ownsRow w.heap.size 5 1 v (zaw s bs).length (bvs (zaw s bs))∧Below w.heap.size w w':=by
 have c0:=zf4 s bs
 have HB:=hide (Blk.new w 40 (zas s bs))
 have HA:Hid (At (w.alloc (.cells (zas s bs) 40)) w.heap.size (w.heap.size+1) (some ⟨w.heap.size,1,none⟩) 16 bs):=At.addr HB.out hl
 have HL:=hide hl
 clear hl
 by_cases hr:zaz s bs=true
 ·have hb:zaw s bs=bs.take s.toNat:=by unfold zaw;rw [if_pos hr]
  have:s=0∨s=4∨s=16:=by
   unfold zaz at hr
   simp only [Bool.and_eq_true] at hr
   exact of_decide_eq_true hr.1
  have HR:=hide hr
  rw [hb]
  clear hr hb
  rcases this with rfl | rfl | rfl
  all_goals
   go_enter Tryz.func60,Tryz.ntmps60
   go_wp2_with (first
    | (with_reducible refine zaI rfl (.tmp 1) rfl w.heap.size rfl HB.out HL.out ?_)
    | (go_at_call 44;refine (zcQ _ _ bs HL.out).mono ?_;rintro e w1 ⟨rfl,hb1⟩;rw [HR.out];have HB1:=hide (HB.out.below hb1 (by simp));have k0:=(HB1.out.cell 0).trans (zf4 _ bs);have HW1:=hide hb1;have HAT:=hide (At.addr HB1.out HL.out);have hz1:=hb1.size;clear hb1)
    | (go_at_call 13;go_must (refine (zee _ w.heap.size (w.heap.size+1) _ _ _ _ (HAT.out.head (by decide)) (by simpa using hz1) (by decide)).mono ?_);rintro e w2 ⟨v,rfl,hown,hbel⟩))
   go_ret
   have hz2:w.heap.size≤w1.heap.size:=by simp at hz1;omega
   have hlen:∀ k,k≤16→(bs.take k).length=k:=fun k hk=>by rw [List.length_take,HL.out];omega
   exact ⟨_,rfl,by rw [hlen _ (by decide)];exact zaA hown hz2,((Below.refl _ _).alloc (Nat.le_refl _) _ |>.trans (HW1.out.mono (by simp))).trans (hbel.mono hz2)⟩
 ·have hr':zaz s bs=false:=by simpa using hr
  have hb:zaw s bs=[]:=by unfold zaw;rw [if_neg hr]
  have HR:=hide hr'
  rw [hb]
  clear hr hb hr'
  go_enter Tryz.func60,Tryz.ntmps60
  go_wp2_with (first
   | (with_reducible refine zaI rfl (.tmp 1) rfl w.heap.size rfl HB.out HL.out ?_)
   | (go_at_call 44;refine (zcQ _ _ bs HL.out).mono ?_;rintro e w1 ⟨rfl,hb1⟩;rw [HR.out]))
  go_ret
  exact ⟨_,rfl,World.ownsRow_nil _ _ _ _,(Below.refl _ _).alloc (Nat.le_refl _) _ |>.trans (hb1.mono (by simp))⟩
theorem zdr (w:World) (s:Int) (bs:List UInt8) (hl:bs.length=16) :
  Calls Tryz.prog 152 #[.agg (zas s bs)] w fun e w'=>e = .returned (.bool (zct s bs))∧Below w.heap.size w w':=by
 obtain ⟨b,hb⟩:∃ b,bs[0]?=some b:=⟨bs[0]'(by omega),List.getElem?_eq_getElem _⟩
 have c0:=zf4 s bs
 have c1:(zas s bs)[1]?=some (.int .u8 (b.toNat:Int)):=zhd s hb
 have HB:=hide (Blk.new w 40 (zas s bs))
 have hm:=zsO s bs hb
 have HL:=hide hl
 clear hl hb
 have hbl:=b.toNat_lt
 obtain ⟨r,HR⟩:∃ r:Bool,Hid (zaz s bs=r):=⟨_,hide rfl⟩
 rw [HR.out] at hm
 have HM:=hide hm
 clear hm
 rcases (show s=4∨s=16∨(s≠4∧s≠16) by omega) with rfl | rfl | ⟨h4,h6⟩
 case' inl =>
  obtain ⟨q,hq,hqv⟩:∃ q:Bool,(((b.toNat:Int)/16==14)=q)∧q=decide (224≤b.toNat∧b.toNat<240):=⟨_,rfl,by rw [Bool.eq_iff_iff];simp;omega⟩
  have HV:Hid (zct 4 bs=(r&&q)):=hide (by rw [HM.out,hqv];simp)
 case' inr.inl =>
  obtain ⟨q,hq,hqv⟩:∃ q:Bool,(((b.toNat:Int)==255)=q)∧q=decide (b.toNat=255):=⟨_,rfl,by rw [Bool.eq_iff_iff];simp;omega⟩
  have HV:Hid (zct 16 bs=(r&&q)):=hide (by rw [HM.out,hqv];simp)
 case' inr.inr =>
  have e4:(s==4)=false:=by simpa using h4
  have e6:(s==16)=false:=by simpa using h6
  have HV:Hid (zct s bs=(r&&false)):=hide (by rw [HM.out];simp [h4,h6])
  obtain ⟨q,hqv⟩:∃ q:Bool,q=false:=⟨_,rfl⟩
  clear h4 h6
 all_goals
  clear hqv HM
  cases r <;> cases q
 all_goals
  rw [HV.out]
  simp only [Bool.and_false,Bool.and_true]
  go_enter Tryz.func152,Tryz.ntmps152
  go_wp2_with (first
   | (with_reducible refine zaI rfl (.tmp 1) rfl w.heap.size rfl HB.out HL.out ?_)
   | (go_at_call 44;refine (zcQ _ _ bs HL.out).mono ?_;rintro e w1 ⟨rfl,hb1⟩;rw [HR.out]))
  go_ret
  exact ⟨rfl,(Below.refl _ _).alloc (Nat.le_refl _) _ |>.trans (hb1.mono (by simp))⟩
open Go.RowKit
theorem zpY {s:Int} {bs:List UInt8} (h:zaz s bs=true):s=0∨s=4∨s=16:=by
 unfold zaz at h
 simp only [Bool.and_eq_true] at h
 exact of_decide_eq_true h.1
theorem of_no (w:World) (A:Option Addr) (n c:Nat) (hs:zc0 n=false) :
  Calls Tryz.prog 65 #[.slice A n c] w fun e w'=>e = .returned (.tuple #[.agg (zas 0 zat),.int .i64 1])∧Below w.heap.size w w':=by
 have HS:=hide hs
 clear hs
 go_enter Tryz.func65,Tryz.ntmps65
 go_wp2_with (first
  | (go_at_call 78;refine (zcR _ _).mono ?_;rintro e w1 ⟨rfl,rfl⟩;rw [HS.out])
  | (refine zaG rfl (.tmp 2) (.tmp 9) rfl w.heap.size rfl (s:=0) (bs:=zat) (congrArg Value.agg (zeg 0)).symm zbb (Blk.new w _ _) rfl ?_;intro w2 hb2 hg2))
 refine zmc (p:=2) (q:=3) (v:=.int .i64 1) rfl rfl rfl hb2 zbb rfl ?_
 exact ⟨rfl,((Below.refl _ _).alloc (Nat.le_refl _) _).grown hg2 (by simp) (by simp)⟩
theorem zc8 (w:World) (o:Obj) (t:TypeId) (cs:Array Value):Blk ((w.alloc o).alloc (.cells cs t)) (w.heap.size+1) t cs:=heap_alloc2_new w o _
theorem zrM {n:Nat} (h:zc0 n=true):n=0∨n=4∨n=16:=by
 have:(n:Int)=0∨(n:Int)=4∨(n:Int)=16:=of_decide_eq_true h
 omega
theorem znI {xs:List UInt8} (h:xs.length≤16):(pad xs).length=16:=by unfold pad;simp;omega
theorem zhH {w:World} {ops:Array Oper} {rest:List Oper} {o:Oper} {a:Act} {Q:Exit→Act→World→Prop} (hgd:o.guard=none) (d s:Operand)
  (ho:o.op = .call { callee:=.builtin .copy,args:=#[d,s],argTypes:=#[22,22] })
  (g n c lo hi:Nat) (A:Option Addr) (bs:List UInt8) (z:Int) (hg:Blk w g 40 (zas z zat)) (hr:At w lo hi A n bs) (hn:n≤16)
  (hd:a.eval d = .slice (some ⟨g,1,none⟩) 16 16) (hs:a.eval s = .slice A n c)
  (h:∀ w',Blk w' g 40 (zas z (pad bs))→w.grownBy w' (some g)→wpList Tryz.prog ops Q rest (a.put o.dst (goInt n)) w'):wpList Tryz.prog ops Q (o::rest) a w:=by
 have hl:=hr.len
 have hsz:(Tryz.prog.info? 5).map (·.size)=some 1:=by kernel_rfl
 rcases Nat.eq_zero_or_pos n with h0 | h0
 ·subst h0
  have:bs=[]:=List.eq_nil_of_length_eq_zero hl
  subst this
  refine wpList_copy_nothing hgd d s 22 22 ho 5 Tryz.underlying22 hsz _ _ _ _ _ _ hd hs (by simp) ?_
  exact h w hg (zac w _)
 ·obtain ⟨ad,rfl,hc⟩:=hr.cells h0
  have hb:=za1 bs
  refine wpList_copy_own hgd d s 22 22 ho 5 Tryz.underlying22 hsz g 1 16 16 ad n c hd hs (zas z zat) 40 hg (bvs bs) (by rw [hb,hl];exact (Nat.min_eq_left hn).symm) hc
   (by rw [zcs z zbb,hb,hl];omega) (zbI _) ?_
  rw [hb,hl]
  have e:((zas z zat).toList.take 1++(bvs bs++(zas z zat).toList.drop (1+n))).toArray=zas z (pad bs):=by
   unfold zas pad
   refine congrArg List.toArray ?_
   simp only [List.take_succ_cons,List.take_zero,List.cons_append,List.nil_append]
   rw [zdx,Nat.add_comm,List.drop_succ_cons,hl]
   refine congrArg (fun l=>_::(_++l)) ?_
   unfold bvs zat
   rw [← List.map_drop,List.drop_replicate]
  rw [e]
  exact h _ (hg.setRow _) (zav _ _ _)
theorem of_yes (w:World) (lo hi:Nat) (A:Option Addr) (n c:Nat) (xs:List UInt8) (h:At w lo hi A n xs) (hh:hi≤w.heap.size) (hs:zc0 n=true) :
  Calls Tryz.prog 65 #[.slice A n c] w fun e w'=>e = .returned (.tuple #[.agg (zas n (pad xs)),.int .i64 0])∧Below w.heap.size w w':=by
 have hn16:n≤16:=by rcases zrM hs with h | h | h <;> omega
 have HS:=hide hs
 have H:=hide h
 have HPL:=hide (znI (xs:=xs) (by rw [h.len];exact hn16))
 clear hs h
 go_enter Tryz.func65,Tryz.ntmps65
 go_wp2_with (first
  | (go_at_call 78;refine (zcR _ _).mono ?_;rintro e w1 ⟨rfl,rfl⟩;rw [HS.out])
  | (refine zaG rfl (.tmp 4) (.tmp 12) rfl (w.heap.size+1) rfl (s:=n) (bs:=zat) (congrArg Value.agg (zeg n)).symm zbb (zc8 w _ _ _) rfl ?_;intro w2 hb2 hg2;have HB2:=hide hb2;have HG2:=hide hg2;clear hb2 hg2;have HA2:=hide ((H.out.alloc hh _).alloc (by simp;omega) _ |>.grown HG2.out (by simp;omega) (by intro g hg;injection hg;omega));have HZ2:=hide ((Blk.new w _ _).alloc _ |>.grown HG2.out (by simp)))
  | (with_reducible refine zhH rfl (.tmp 14) (.tmp 15) rfl (w.heap.size+1) n c lo hi A xs n HB2.out HA2.out hn16 rfl rfl ?_;intro w3 hb3 hg3;have HB3:=hide hb3;have HG3:=hide hg3;clear hb3 hg3;have HZ3:=hide (HZ2.out.grown HG3.out (by simp)))
  | (with_reducible refine zaI rfl (.tmp 4) rfl (w.heap.size+1) rfl HB3.out HPL.out ?_)
  | (refine zaG rfl (.tmp 2) (.tmp 17) rfl w.heap.size rfl (s:=n) (bs:=pad xs) rfl HPL.out HZ3.out rfl ?_;intro w4 hb4 hg4;have HB4:=hide hb4;have HG4:=hide hg4;clear hb4 hg4))
 refine zmc (p:=2) (q:=3) (v:=.int .i64 0) rfl rfl rfl HB4.out HPL.out rfl ?_
 refine ⟨rfl,?_⟩
 have k0:=((Below.refl w.heap.size w).alloc (Nat.le_refl _) (.cells zAdr 40))
 have k1:=k0.alloc (by simp) (.cells zAdr 40)
 have k2:=k1.grown HG2.out (by simp;omega) (by simp)
 have k3:=k2.grown HG3.out k2.size (by simp)
 exact k3.grown HG4.out k3.size (by simp)
theorem zgl (w:World) (lo hi:Nat) (A:Option Addr) (n c:Nat) (xs:List UInt8) (h:At w lo hi A n xs) (hh:hi≤w.heap.size) :
  Calls Tryz.prog 65 #[.slice A n c] w fun e w'=>e = .returned (.tuple #[.agg (zas (ofS xs) (ofB xs)),.int .i64 (ofE xs)])∧Below w.heap.size w w':=by
 unfold ofS ofB ofE
 rw [h.len]
 by_cases hs:zc0 n=true
 ·rw [if_pos hs,if_pos hs,if_pos hs]
  exact of_yes w lo hi A n c xs h hh hs
 ·rw [if_neg hs,if_neg hs,if_neg hs]
  exact of_no w A n c (by simpa using hs)
theorem zvi (w:World) (k:Int) :
  Calls Tryz.prog 227 #[.int .i64 k] w fun e w'=>e = .returned (.int .u8 ((znY k).toNat:Int))∧w'=w:=by
 have hm:=zsZ k
 unfold zvj at hm
 by_cases h8:8≤k
 ·rw [if_pos h8] at hm
  rw [hm]
  clear hm
  go_enter Tryz.func227,Tryz.ntmps227
  go_wp2
  go_ret
  exact ⟨rfl,rfl⟩
 ·rw [if_neg h8] at hm
  by_cases h0:k≤0
  ·rw [if_pos h0] at hm
   rw [hm]
   clear hm
   go_enter Tryz.func227,Tryz.ntmps227
   go_wp2
   go_ret
   exact ⟨rfl,rfl⟩
  ·rw [if_neg h0] at hm
   rw [hm]
   clear hm
   rcases (show k=1∨k=2∨k=3∨k=4∨k=5∨k=6∨k=7 by omega) with rfl | rfl | rfl | rfl | rfl | rfl | rfl
   all_goals
    clear h8 h0
    go_enter Tryz.func227,Tryz.ntmps227
    go_wp2
    go_ret
    exact ⟨rfl,rfl⟩
theorem zm0 (s k:Int) (b0 b1 b2 b3 b4 b5 b6 b7 b8 b9 b10 b11 b12 b13 b14 b15:UInt8):Tryz.prog.built 234 [(0,.agg (zas s [b0,b1,b2,b3,b4,b5,b6,b7,b8,b9,b10,b11,b12,b13,b14,b15])),(1,.int .i64 k)]=some (zby s [b0,b1,b2,b3,b4,b5,b6,b7,b8,b9,b10,b11,b12,b13,b14,b15] k):=by
 kernel_rfl
theorem zko (s k:Int) (bs:List UInt8) (hl:bs.length=16):Tryz.prog.built 234 [(0,.agg (zas s bs)),(1,.int .i64 k)]=some (zby s bs k) :=
 match bs,hl with
 | [b0,b1,b2,b3,b4,b5,b6,b7,b8,b9,b10,b11,b12,b13,b14,b15],_=>zm0 s k b0 b1 b2 b3 b4 b5 b6 b7 b8 b9 b10 b11 b12 b13 b14 b15
theorem zd2 {ops:Array Oper} {rest:List Oper} {o:Oper} {a:Act} {w:World} {Q:Exit→Act→World→Prop} (hgd:o.guard=none) (x y:Operand) (ho:o.op = .build 234 #[(0,x),(1,y)])
  {s k:Int} {bs:List UInt8} (hl:bs.length=16) (hx:a.eval x = .agg (zas s bs)) (hy:a.eval y = .int .i64 k)
  (hk:wpList Tryz.prog ops Q rest (a.put o.dst (.agg (zby s bs k))) w):wpList Tryz.prog ops Q (o::rest) a w :=
 wpList_buildTo hgd 234 #[(0,x),(1,y)] ho o.dst rfl _ (by simp only [List.map_toArray,List.map_cons,List.map_nil,hx,hy];exact zko s k bs hl) hk
theorem and_u8 (a b:UInt8):bits .and .u8 (a.toNat:Int) (b.toNat:Int)=((a &&& b).toNat:Int):=by
 show IntKind.u8.wrap ((BitVec.ofInt 8 (a.toNat:Int) &&& BitVec.ofInt 8 (b.toNat:Int)).toNat:Int)=_
 have h1:∀ x:UInt8,BitVec.ofInt 8 (x.toNat:Int)=x.toBitVec:=fun x=>by
  rw [BitVec.ofInt_natCast];simp
 rw [h1,h1]
 have:(a.toBitVec &&& b.toBitVec).toNat=(a &&& b).toNat:=rfl
 rw [this]
 have:=(a &&& b).toNat_lt
 rw [IntKind.wrap_u8]
 omega
theorem zt4 (s:Int) (l:List UInt8) (k:Nat) (b:UInt8):(zas s l).setIfInBounds (1+k) (.int .u8 (b.toNat:Int))=zas s (l.set k b):=by
 unfold zas bvs
 rw [List.setIfInBounds_toArray,Nat.add_comm,List.set_cons_succ,List.map_set]
 rfl
theorem zyd (w:World) (s bits:Int) (bs:List UInt8) (hl:bs.length=16) (hr:zaz s bs=true) (h0:s≠0) (h1:0≤bits) (h2:bits≤8*s) :
  Calls Tryz.prog 214 #[.agg (zas s bs),.int .i64 bits] w fun e w'=>e = .returned (.tuple #[.agg (zby s (cutB bits bs) bits),.int .i64 0])∧Below w.heap.size w w':=by
 have hs:s=4∨s=16:=by
  have hr':=hr
  unfold zaz at hr'
  simp only [Bool.and_eq_true] at hr'
  have:s=0∨s=4∨s=16:=of_decide_eq_true hr'.1
  omega
 have HL:=hide hl
 have HR:=hide hr
 have HB:=hide ((Blk.new w 40 (zas s bs)).alloc (.cells zPre 234))
 have HZ:=hide (zkc 0 0)
 clear hl hr h0
 rcases hs with rfl | rfl
 all_goals
  have h2':bits≤_:=h2
  simp only [Int.reduceMul] at h2'
  clear h2
  go_enter Tryz.func214,Tryz.ntmps214
  go_wp2_with (first
   | (with_reducible refine zaI rfl (.tmp 2) rfl w.heap.size rfl HB.out HL.out ?_)
   | (go_at_call 44;refine (zcQ _ _ bs HL.out).mono ?_;rintro e w1 ⟨rfl,hb1⟩;rw [HR.out];have HB1:=hide (HB.out.below hb1 (by simp;omega));have HZ1:=hide ((zc8 w _ _ _).below hb1 (by simp));have HW1:=hide hb1;have k0:=(HB1.out.cell 0).trans (zf4 _ bs);clear hb1))
  go_loopw [27] (fun i wr=>∃ k:Nat,k≤16∧i = .int .i64 k∧Blk wr w.heap.size 40 (zas _ (cutK bits k bs))∧Blk wr (w.heap.size+1) 234 (zby 0 zat 0)∧Below w.heap.size w wr) (fun i _=>16-(intOf i).toNat)
  case atStart =>
   exact ⟨0,Nat.zero_le _,rfl,by rw [ztt];exact HB1.out,by rw [HZ.out];exact HZ1.out,((((Below.refl _ _).alloc (Nat.le_refl _) _).alloc (by simp) _)).trans (HW1.out.mono (by simp;omega))⟩
  case round =>
   obtain ⟨k,hk,rfl,hbk,hzk,hbel⟩:=hrel
   have HBK:=hide hbk
   have HZK:=hide hzk
   have HBL:=hide hbel
   clear hbk hzk hbel k0
   by_cases hlt:k<16
   ·obtain ⟨b,hb⟩:∃ b,bs[k]?=some b:=⟨bs[k]'(by rw [HL.out];exact hlt),List.getElem?_eq_getElem _⟩
    have hcell:=(HBK.out.cell (1+k)).trans (zhd _ (zvH bits k bs hb))
    have hfz:=HBK.out.frozen (1+k)
    have hand:=and_u8 b (znY (bits-8*(k:Int)))
    have HS:=hide (ztu bits k bs hb)
    clear hb
    go_wp2_with fail
    refine wp_region_still_tail 12 (by kernel_rfl) (by kernel_rfl) ?_
    simp only [List.take_succ_cons,List.take_zero,List.drop_succ_cons,List.drop_zero]
    repeat (first | still_call (zvi _ _) | still_step)
    refine wpStill_nil ?_
    go_wp2_with fail
    go_roundw
    case rel =>
     refine ⟨k+1,by omega,by go_num,?_,?_,?_⟩
     ·have h:=(Blk.drew HBK.out).set_ (1+k) (.int .u8 ((b &&& znY (bits-8*(k:Int))).toNat:Int))
      rw [zt4,HS.out] at h
      exact h
     ·exact (Blk.drew HZK.out).far (by simp) _
     ·exact zcV (zam HBL.out) (by simp) _
    case measure=>simp [intOf];omega
   ·obtain rfl:k=16:=by omega
    have HPL:=hide ((zpn bits 16 bs).trans HL.out)
    have HBP:=fun s=>hide (zko s bits (cutK bits 16 bs) HPL.out)
    go_wp2_with (first
     | (with_reducible refine zaI rfl (.tmp 2) rfl w.heap.size rfl HBK.out HPL.out ?_)
     | (with_reducible refine zd2 rfl (.tmp 43) (.tmp 44) rfl HPL.out rfl rfl ?_)
     | (refine zc1 rfl (.tmp 4) (.tmp 45) rfl (w.heap.size+1) rfl rfl HPL.out HZK.out rfl ?_;intro w4 hb4 hg4;have HB4:=hide hb4;have HG4:=hide hg4;clear hb4 hg4))
    refine zma (p:=4) (q:=5) (v:=.int .i64 0) rfl rfl rfl HB4.out HPL.out rfl ?_
    exact ⟨rfl,HBL.out.grown HG4.out HBL.out.size (by simp)⟩
open Go.RowKit
theorem cut_no (w:World) (s bits:Int) (bs:List UInt8) (hl:bs.length=16) (hs : -9223372036854775808≤s∧s≤9223372036854775807) (hc:zhR s bs bits=false) :
  Calls Tryz.prog 214 #[.agg (zas s bs),.int .i64 bits] w fun e w'=>e = .returned (.tuple #[.agg (zby 0 zat 0),.int .i64 1])∧Below w.heap.size w w':=by
 have HL:=hide hl
 have HB:=hide ((Blk.new w 40 (zas s bs)).alloc (.cells zPre 234))
 have HZ:=hide (zkc 0 0)
 clear hl
 obtain ⟨r,hr⟩:∃ r:Bool,zaz s bs=r:=⟨_,rfl⟩
 have HR:=hide hr
 have hcase:r=false∨r=true∧s=0∨r=true∧s≠0∧bits<0∨r=true∧(s=4∨s=16)∧0≤bits∧8*s<bits:=by
  unfold zhR at hc
  cases r with
  | false=>exact .inl rfl
  | true =>
   rw [hr] at hc
   have:=zpY hr
   simp at hc
   by_cases h0:s=0
   ·exact .inr (.inl ⟨rfl,h0⟩)
   ·by_cases hb:bits<0
    ·exact .inr (.inr (.inl ⟨rfl,h0,hb⟩))
    ·exact .inr (.inr (.inr ⟨rfl,by omega,by omega,hc h0 (by omega)⟩))
 clear hc hr hs
 rcases hcase with rfl | ⟨rfl,rfl⟩ | ⟨rfl,h0,hb⟩ | ⟨rfl,rfl | rfl,hb,h8⟩
 case' inr.inr.inl=>have h0':(s==0)=false:=by simpa using h0
 case' inr.inr.inr.inl=>simp only [Int.reduceMul] at h8
 case' inr.inr.inr.inr=>simp only [Int.reduceMul] at h8
 all_goals
  go_enter Tryz.func214,Tryz.ntmps214
  go_wp2_with (first
   | (with_reducible refine zaI rfl (.tmp 2) rfl w.heap.size rfl HB.out HL.out ?_)
   | (go_at_call 44;refine (zcQ _ _ bs HL.out).mono ?_;rintro e w1 ⟨rfl,hb1⟩;rw [HR.out];have HB1:=hide (HB.out.below hb1 (by simp;omega));have HZ1:=hide ((zc8 w _ _ _).below hb1 (by simp));have HW1:=hide hb1;have k0:=(HB1.out.cell 0).trans (zf4 _ bs);clear hb1)
   | (refine zc1 rfl (.tmp 4) (.tmp 26) rfl (w.heap.size+1) rfl (congrArg Value.agg HZ.out).symm zbb HZ1.out rfl ?_;intro w4 hb4 hg4;have HB4:=hide hb4;have HG4:=hide hg4;clear hb4 hg4))
  refine zma (p:=4) (q:=5) (v:=.int .i64 1) rfl rfl rfl HB4.out zbb rfl ?_
  have hw:Below w.heap.size w w1:=(((Below.refl _ _).alloc (Nat.le_refl _) _).alloc (by simp) _).trans (HW1.out.mono (by simp;omega))
  exact ⟨rfl,hw.grown HG4.out hw.size (by simp)⟩
theorem zye (w:World) (s bits:Int) (bs:List UInt8) (hl:bs.length=16) (hs : -9223372036854775808≤s∧s≤9223372036854775807) :
  Calls Tryz.prog 214 #[.agg (zas s bs),.int .i64 bits] w fun e w'=>e = .returned (.tuple #[.agg (zby (cutS s bs bits) (zof s bs bits) (cutN s bs bits)),.int .i64 (cutE s bs bits)])∧Below w.heap.size w w':=by
 unfold cutS zof cutN cutE
 by_cases hc:zhR s bs bits=true
 ·rw [if_pos hc,if_pos hc,if_pos hc,if_pos hc]
  unfold zhR at hc
  simp only [Bool.and_eq_true,decide_eq_true_eq] at hc
  exact zyd w s bits bs hl hc.1 hc.2.1 hc.2.2.1 hc.2.2.2
 ·rw [if_neg hc,if_neg hc,if_neg hc,if_neg hc]
  exact cut_no w s bits bs hl hs (by simpa using hc)
theorem zxZ (w:World) (sp kp:Int) (bp:List UInt8) (hp:bp.length=16) (s:Int) (bs:List UInt8) (hl:bs.length=16) (hs : -9223372036854775808≤s∧s≤9223372036854775807) :
  Calls Tryz.prog 201 #[.agg (zby sp bp kp),.agg (zas s bs)] w fun e w'=>e = .returned (.bool (hasB sp bp kp s bs))∧Below w.heap.size w w':=by
 have HL:=hide hl
 have HPL:=hide hp
 have HCL:=hide (ztv s kp hl)
 have HB:Hid (Blk ((w.alloc (.cells (zby sp bp kp) 234)).alloc (.cells (zas s bs) 40)) (w.heap.size+1) 40 (zas s bs)):=zc8 w _ _ _
 have HP:Hid (Blk ((w.alloc (.cells (zby sp bp kp) 234)).alloc (.cells (zas s bs) 40)) w.heap.size 234 (zby sp bp kp)):=(Blk.new w _ _).alloc _
 have k17:=(HP.out.cell 17).trans (zkR sp kp hp)
 have k17':=zkR sp kp hp
 have HS:=hide hs
 clear hl hp hs
 obtain ⟨c,hc⟩:∃ c:Bool,zhR s bs kp=c:=⟨_,rfl⟩
 have HC:=hide hc
 have hcv:cutE s bs kp=if c=true then 0 else 1:=by unfold cutE;rw [hc]
 have hv:hasB sp bp kp s bs=(c&&decide (cutS s bs kp=sp∧zof s bs kp=bp∧cutN s bs kp=kp)):=by
  cases c with
  | false=>unfold hasB;rw [hc];rfl
  | true=>rw [← zx0 sp bp kp s bs hc];rfl
 rw [hv]
 clear hc hv
 cases c
 all_goals
  simp only [Bool.false_eq_true,if_false,if_true,Bool.false_and,Bool.true_and] at hcv ⊢
  have HCV:=hide hcv
  clear hcv
  go_enter Tryz.func201,Tryz.ntmps201
  go_wp2_with (first
   | (with_reducible refine zaI rfl (.tmp 3) rfl (w.heap.size+1) rfl HB.out HL.out ?_)
   | (go_at_call 214;refine (zye _ s kp bs HL.out HS.out).mono ?_;rintro e w1 ⟨rfl,hb1⟩;rw [HCV.out];have HP1:=hide (HP.out.below hb1 (by simp;omega));have HW1:Hid (Below w.heap.size w w1):=(((Below.refl _ _).alloc (Nat.le_refl _) _).alloc (by simp) _).trans (hb1.mono (by simp;omega));clear hb1)
   | (refine zc1 rfl (.tmp 5) (.tmp 12) rfl w1.heap.size rfl rfl HCL.out (Blk.new w1 _ _) rfl ?_;intro w4 hb4 hg4;have HB4:=hide hb4;have HG4:=hide hg4;have HP4:=hide ((HP1.out.alloc _).grown hg4 (by have:=HP1.out.lt;simp;omega));clear hb4 hg4)
   | ((with_reducible refine zdP ?_ (.tmp 5) rfl w1.heap.size rfl HB4.out HCL.out ?_);· rfl)
   | ((with_reducible refine zdP ?_ (.tmp 2) rfl w.heap.size rfl HP4.out HPL.out ?_);· rfl)
   | ((with_reducible refine zid ?_ (.tmp 17) (.tmp 18) rfl rfl rfl HCL.out HPL.out ?_);· rfl))
  go_ret
  exact ⟨by first | rfl | simp,(HW1.out.alloc HW1.out.size _).grown HG4.out (by have:=HW1.out.size;simp;omega) (by intro g hg;injection hg with hg;subst hg;exact HW1.out.size)⟩
end
end Go.Proofs.YtjindligkhdddaaGreatDoor
