/-
  Addresses and prefixes as values and as blocks: their cells, and when two are equal. No condition.
  '==' at addresses and prefixes, as a step of the walk. No condition.
  What Right, Bytes, Of, Compare and Multicast of package addr do, in whatever memory. No condition beyond sizes that fit memory.
  What Of, mask, Cut and Has of package addr do, in whatever memory. No condition beyond sizes that fit memory.
  What Cut (all inputs) and Has of package addr do, in whatever memory. No condition.
-/
import Derived.Stop.BytesEq
import Derived.StillTailTactics
import Derived.Great.BuildSlice
import Derived.Test.YtplpglfjcieloaaGreatDoorKSAB
set_option linter.unusedVariables false
set_option linter.unusedSimpArgs false
namespace Go.Proofs.YtplpglfjcieloaaGreatDoor
open Tryz
section
set_option maxRecDepth 20000
set_option maxHeartbeats 1000000
open Go.RowKit
def zaq (s:Int) (bs:List UInt8):Array Value:=(.int .i64 s::bvs bs).toArray
def zbB (s:Int) (bs:List UInt8) (k:Int):Array Value:=(.int .i64 s::(bvs bs++[.int .i64 k])).toArray
theorem zcv (s:Int) {bs:List UInt8} (h:bs.length=16):(zaq s bs).size=17:=by simp [zaq,bvs,h]
theorem zfC (s:Int) {bs:List UInt8} (k:Int) (h:bs.length=16):(zbB s bs k).size=18:=by simp [zbB,bvs,h]
theorem zgl (s:Int) (bs:List UInt8):(zaq s bs)[0]?=some (.int .i64 s):=by simp [zaq]
theorem zhu (s:Int) {bs:List UInt8} {i:Nat} {b:UInt8} (h:bs[i]?=some b):(zaq s bs)[1+i]?=some (.int .u8 (b.toNat:Int)):=by
 rw [Nat.add_comm]
 simp [zaq,bvs,h,bv]
theorem zlj (s:Int) {bs:List UInt8} (k:Int) (h:bs.length=16):(zbB s bs k)[17]?=some (.int .i64 k):=by
 simp [zbB,bvs,h,List.getElem?_append]
theorem At.addr {w:World} {g:Nat} {t:TypeId} {s:Int} {bs:List UInt8} (h:Blk w g t (zaq s bs)) (hl:bs.length=16):At w g (g+1) (some ⟨g,1,none⟩) 16 bs :=
 ⟨hl,fun _=>⟨_,1,rfl,lr,by omega,fun j u hu=>by rw [h.cell];exact zhu s hu⟩⟩
theorem zrs (s:Int) {bs:List UInt8} (h:bs.length=16):(zaq s bs).extract 1 17=(bs.map Extern.Stop.cell).toArray:=by
 simp only [zaq,List.extract_toArray]
 congr 1
 simp only [List.extract_eq_take_drop,List.drop_succ_cons,List.drop_zero]
 rw [List.take_of_length_le (by simp [bvs,h])]
 rfl
theorem zqy (s:Int) {bs:List UInt8} (k:Int) (h:bs.length=16):(zbB s bs k).extract 0 17=zaq s bs:=by
 simp only [zbB,zaq,List.extract_toArray]
 congr 1
 simp only [List.extract_eq_take_drop,List.drop_zero]
 have e:(Value.int IntKind.i64 s::(bvs bs++[Value.int IntKind.i64 k]))=(Value.int IntKind.i64 s::bvs bs)++[Value.int IntKind.i64 k]:=rfl
 rw [e,List.take_append_of_le_length (by simp [bvs,h]),List.take_of_length_le (by simp [bvs,h])]
theorem zhN {P:Program} (w:World) (d:Nat) {xs ys:Array Value} {f g:Field} {a b c e:Value} {r1 r2:Bool} (hf:f.name ≠ "_") (hg:g.name ≠ "_")
  (h1:(part f.type xs f.offset).run P w = .ok a w) (h2:(part f.type ys f.offset).run P w = .ok b w) (h3:(Op.equalIn d f.type a b).run P w = .ok r1 w)
  (h4:(part g.type xs g.offset).run P w = .ok c w) (h5:(part g.type ys g.offset).run P w = .ok e w) (h6:(Op.equalIn d g.type c e).run P w = .ok r2 w) :
  (Op.eqFields d xs ys [f,g]).run P w = .ok (r1&&r2) w:=by
 simp only [Op.eqFields,if_pos hf,if_pos hg,Sem.run_bind,h1,h2,h3,Result.andThen_ok]
 cases r1
 ·simp
 ·simp only [Bool.not_true,Bool.false_eq_true,if_false,Sem.run_bind,h4,h5,h6,Result.andThen_ok]
  cases r2 <;> simp
set_option maxRecDepth 100000 in
theorem zht (w:World) (d:Nat) (s t:Int) (xs ys:List UInt8) (hx:xs.length=16) (hy:ys.length=16) :
  (Op.equalIn (d+3) 26 (.agg (zaq s xs)) (.agg (zaq t ys))).run prog w = .ok (decide (s=t∧xs=ys)) w:=by
 have hS:prog.underlying 26=some (.struct (prog.fieldsOf 26)):=by kernel_rfl
 have hp:prog.stoodInHeld 26=false:=by kernel_rfl
 have pa:∀ (s:Int) (xs:List UInt8),xs.length=16→(part 24 (zaq s xs) 1).run prog w = .ok (.agg (xs.map Extern.Stop.cell).toArray) w:=fun s xs hx=>by
  have a22:=Tryz.isAgg24
  have s22:=sizeOf24
  simp [part,a22,s22,zrs s hx]
 have pi:∀ (s:Int) (xs:List UInt8),(part 3 (zaq s xs) 0).run prog w = .ok (.int .i64 s) w:=fun s xs=>by
  have a3:=Tryz.isAgg3
  simp [part,a3,zgl]
 have eb:=run_equalIn_bytes (P:=prog) w d 24 5 16 underlying24 underlying5 sizeOf5 xs ys hx hy
 have ei:=run_equalIn_int (P:=prog) w (d+1) 3 .i64 .i64 s t underlying3
 rw [run_equalIn_agg w (d+2) 26 _ _ hS hp]
 simp only [Program.fieldsOf,underlying26]
 refine (zhN w (d+2) (of_decide_eq_true (by kernel_rfl)) (of_decide_eq_true (by kernel_rfl)) (pi s xs) (pi t ys) ei (pa s xs hx) (pa t ys hy) eb).trans ?_
 by_cases h1:s=t <;> by_cases h2:xs=ys <;> simp [h1,h2]
set_option maxRecDepth 100000 in
theorem zsK (w:World) (d:Nat) (s t k m:Int) (xs ys:List UInt8) (hx:xs.length=16) (hy:ys.length=16) :
  (Op.equalIn (d+4) 189 (.agg (zbB s xs k)) (.agg (zbB t ys m))).run prog w = .ok (decide (s=t∧xs=ys∧k=m)) w:=by
 have hS:prog.underlying 189=some (.struct (prog.fieldsOf 189)):=by kernel_rfl
 have hp:prog.stoodInHeld 189=false:=by kernel_rfl
 have pa:∀ (s:Int) (xs:List UInt8) (k:Int),xs.length=16→(part 26 (zbB s xs k) 0).run prog w = .ok (.agg (zaq s xs)) w:=fun s xs k hx=>by
  have a22:=Tryz.isAgg26
  have s22:=sizeOf26
  simp [part,a22,s22,zqy s k hx]
 have pi:∀ (s:Int) (xs:List UInt8) (k:Int),xs.length=16→(part 3 (zbB s xs k) 17).run prog w = .ok (.int .i64 k) w:=fun s xs k hx=>by
  have a3:=Tryz.isAgg3
  simp [part,a3,zlj s k hx]
 have eb:=zht w d s t xs ys hx hy
 have ei:=run_equalIn_int (P:=prog) w (d+2) 3 .i64 .i64 k m underlying3
 rw [run_equalIn_agg w (d+3) 189 _ _ hS hp]
 simp only [Program.fieldsOf,underlying189]
 refine (zhN w (d+3) (of_decide_eq_true (by kernel_rfl)) (of_decide_eq_true (by kernel_rfl)) (pa s xs k hx) (pa t ys m hy) eb (pi s xs k hx) (pi t ys m hy) ei).trans ?_
 by_cases h1:s=t <;> by_cases h2:xs=ys <;> by_cases h3:k=m <;> simp [h1,h2,h3]
theorem zmW {w:World} {g:Nat} {t:TypeId} {s:Int} {bs:List UInt8} (h:Blk w g t (zaq s bs)) (hl:bs.length=16):(loadVar 26 ⟨g,0,none⟩).run prog w = .ok (.agg (zaq s bs)) w :=
 run_loadVar_row w g t 26 (zaq s bs) (0,0) _ h underlying26 rfl (by rw [zcv s hl];kernel_rfl)
theorem ztj {w:World} {g:Nat} {t:TypeId} {s k:Int} {bs:List UInt8} (h:Blk w g t (zbB s bs k)) (hl:bs.length=16):(loadVar 189 ⟨g,0,none⟩).run prog w = .ok (.agg (zbB s bs k)) w :=
 run_loadVar_row w g t 189 (zbB s bs k) (0,0) _ h underlying189 rfl (by rw [zfC s k hl];kernel_rfl)
theorem zaK {ops:Array Oper} {rest:List Oper} {o:Oper} {a:Act} {w:World} {Q:Exit→Act→World→Prop} (hgd:o.guard=none) (x:Operand) (ho:o.op = .load 26 x)
  (g:Nat) (hx:a.eval x = .pointer (some ⟨g,0,none⟩)) {t:TypeId} {s:Int} {bs:List UInt8} (h:Blk w g t (zaq s bs)) (hl:bs.length=16)
  (hk:wpList prog ops Q rest (a.put o.dst (.agg (zaq s bs))) w):wpList prog ops Q (o::rest) a w :=
 wpList_load_row hgd 26 x ho g hx t (zaq s bs) (0,0) _ h underlying26 rfl (by rw [zcv s hl];kernel_rfl) hk
theorem zdY {ops:Array Oper} {rest:List Oper} {o:Oper} {a:Act} {w:World} {Q:Exit→Act→World→Prop} (hw:Region.wanted o (yielded ops a.tmps)=true) (x:Operand) (ho:o.op = .load 26 x)
  (g:Nat) (hx:a.eval x = .pointer (some ⟨g,0,none⟩)) {t:TypeId} {s:Int} {bs:List UInt8} (h:Blk w g t (zaq s bs)) (hl:bs.length=16)
  (hk:wpList prog ops Q rest (a.put o.dst (.agg (zaq s bs))) w):wpList prog ops Q (o::rest) a w:=by
 unfold wpList
 rw [if_pos hw]
 exact .inl (wp_load_row 26 x ho g hx t (zaq s bs) (0,0) _ h underlying26 rfl (by rw [zcv s hl];kernel_rfl) hk)
theorem zdW {ops:Array Oper} {rest:List Oper} {o:Oper} {a:Act} {w:World} {Q:Exit→Act→World→Prop} (hw:Region.wanted o (yielded ops a.tmps)=true) (x:Operand) (ho:o.op = .load 189 x)
  (g:Nat) (hx:a.eval x = .pointer (some ⟨g,0,none⟩)) {t:TypeId} {s k:Int} {bs:List UInt8} (h:Blk w g t (zbB s bs k)) (hl:bs.length=16)
  (hk:wpList prog ops Q rest (a.put o.dst (.agg (zbB s bs k))) w):wpList prog ops Q (o::rest) a w:=by
 unfold wpList
 rw [if_pos hw]
 exact .inl (wp_load_row 189 x ho g hx t (zbB s bs k) (0,0) _ h underlying189 rfl (by rw [zfC s k hl];kernel_rfl) hk)
theorem znt (s:Int) (bs:List UInt8):(zaq s bs).all (·.oneCell')=true:=by
 rw [Array.all_eq_true_iff_forall_mem]
 intro v hv
 simp only [zaq,List.mem_toArray,List.mem_cons] at hv
 rcases hv with rfl | hv
 ·rfl
 ·exact zbM bs v hv
theorem zsM (s:Int) (bs:List UInt8) (k:Int):(zbB s bs k).all (·.oneCell')=true:=by
 rw [Array.all_eq_true_iff_forall_mem]
 intro v hv
 simp only [zbB,List.mem_toArray,List.mem_cons,List.mem_append,List.not_mem_nil,or_false] at hv
 rcases hv with rfl | hv | rfl
 ·rfl
 ·exact zbM bs v hv
 ·rfl
theorem zaB (w:World) (g:Nat) (cs:Array Value):w.grownBy (w.setRow g cs) (some g) :=
 ⟨rfl,rfl,rfl,by simp [World.setRow],fun k _ hk=>setRow_other w g k cs (fun e=>hk (by rw [e]))⟩
theorem Blk.setRow {w:World} {g:Nat} {t:TypeId} {old:Array Value} (h:Blk w g t old) (cs:Array Value):Blk (w.setRow g cs) g t cs:=setRow_heap w g old cs t _ h
theorem zaI {ops:Array Oper} {rest:List Oper} {o:Oper} {a:Act} {w:World} {Q:Exit→Act→World→Prop} (hgd:o.guard=none) (x y:Operand) (ho:o.op = .store 26 x y)
  (g:Nat) (hx:a.eval x = .pointer (some ⟨g,0,none⟩)) {s:Int} {bs:List UInt8} (hy:a.eval y = .agg (zaq s bs)) (hl:bs.length=16) {t:TypeId} {old:Array Value} (h:Blk w g t old) (hold:old.size=17)
  (hk:∀ w',Blk w' g t (zaq s bs)→w.grownBy w' (some g)→wpList prog ops Q rest (a.put o.dst undef) w'):wpList prog ops Q (o::rest) a w :=
 wpList_store_row hgd 26 x y ho g (zaq s bs) hx hy t old h (by rw [zcv s hl];kernel_rfl) (by rw [zcv s hl,hold]) (znt s bs) (hk _ (h.setRow _) (zaB _ _ _))
theorem zc6 {ops:Array Oper} {rest:List Oper} {o:Oper} {a:Act} {w:World} {Q:Exit→Act→World→Prop} (hgd:o.guard=none) (x y:Operand) (ho:o.op = .store 189 x y)
  (g:Nat) (hx:a.eval x = .pointer (some ⟨g,0,none⟩)) {s k:Int} {bs:List UInt8} (hy:a.eval y = .agg (zbB s bs k)) (hl:bs.length=16) {t:TypeId} {old:Array Value} (h:Blk w g t old) (hold:old.size=18)
  (hk:∀ w',Blk w' g t (zbB s bs k)→w.grownBy w' (some g)→wpList prog ops Q rest (a.put o.dst undef) w'):wpList prog ops Q (o::rest) a w :=
 wpList_store_row hgd 189 x y ho g (zbB s bs k) hx hy t old h (by rw [zfC s k hl];kernel_rfl) (by rw [zfC s k hl,hold]) (zsM s bs k) (hk _ (h.setRow _) (zaB _ _ _))
theorem zmD {fn:Func} {R:Ending→World→Prop} {a:Act} {w:World} {p q:Tmp} {g:Nat} {t:TypeId} {s:Int} {bs:List UInt8} {v:Value} (hf:fn.results=#[.cell p 26,.tmp q])
  (hp:a.tmps.getD p undef = .pointer (some ⟨g,0,none⟩)) (hq:a.tmps.getD q undef=v) (h:Blk w g t (zaq s bs)) (hl:bs.length=16) (hd:a.defers=[]) (hR:R (.returned (.tuple #[.agg (zaq s bs),v])) w) :
  bodyPost prog fn R .ret a w:=by
 refine bodyPost_ret (v:=.tuple #[.agg (zaq s bs),v]) ?_ hd hR
 have hp':a.tmps[p]?.getD undef = .pointer (some ⟨g,0,none⟩):=by simpa using hp
 have hq':a.tmps[q]?.getD undef=v:=by simpa using hq
 simp [results,hf,hp',hq',asAddr,zmW h hl]
theorem zmB {fn:Func} {R:Ending→World→Prop} {a:Act} {w:World} {p q:Tmp} {g:Nat} {t:TypeId} {s k:Int} {bs:List UInt8} {v:Value} (hf:fn.results=#[.cell p 189,.tmp q])
  (hp:a.tmps.getD p undef = .pointer (some ⟨g,0,none⟩)) (hq:a.tmps.getD q undef=v) (h:Blk w g t (zbB s bs k)) (hl:bs.length=16) (hd:a.defers=[]) (hR:R (.returned (.tuple #[.agg (zbB s bs k),v])) w) :
  bodyPost prog fn R .ret a w:=by
 refine bodyPost_ret (v:=.tuple #[.agg (zbB s bs k),v]) ?_ hd hR
 have hp':a.tmps[p]?.getD undef = .pointer (some ⟨g,0,none⟩):=by simpa using hp
 have hq':a.tmps[q]?.getD undef=v:=by simpa using hq
 simp [results,hf,hp',hq',asAddr,ztj h hl]
theorem zgz {fn:Func} {R:Ending→World→Prop} {a:Act} {w:World} {p:Tmp} {g:Nat} {t:TypeId} {s:Int} {bs:List UInt8} (hf:fn.results=#[.cell p 26])
  (hp:a.tmps.getD p undef = .pointer (some ⟨g,0,none⟩)) (h:Blk w g t (zaq s bs)) (hl:bs.length=16) (hd:a.defers=[]) (hR:R (.returned (.agg (zaq s bs))) w) :
  bodyPost prog fn R .ret a w:=by
 refine bodyPost_ret (v:=.agg (zaq s bs)) ?_ hd hR
 have hp':a.tmps[p]?.getD undef = .pointer (some ⟨g,0,none⟩):=by simpa using hp
 simp [results,hf,hp',asAddr,zmW h hl]
theorem zbd:zas.length=16:=rfl
theorem zew (s:Int):zaq s zas=#[.int .i64 s,.int .u8 0,.int .u8 0,.int .u8 0,.int .u8 0,.int .u8 0,.int .u8 0,.int .u8 0,.int .u8 0,.int .u8 0,.int .u8 0,.int .u8 0,.int .u8 0,.int .u8 0,.int .u8 0,.int .u8 0,.int .u8 0]:=by kernel_rfl
theorem zkw (s k:Int):zbB s zas k=#[.int .i64 s,.int .u8 0,.int .u8 0,.int .u8 0,.int .u8 0,.int .u8 0,.int .u8 0,.int .u8 0,.int .u8 0,.int .u8 0,.int .u8 0,.int .u8 0,.int .u8 0,.int .u8 0,.int .u8 0,.int .u8 0,.int .u8 0,.int .i64 k]:=by kernel_rfl
theorem zlL (s t:Int) (xs ys:List UInt8) (hx:xs.length=16) (hy:ys.length=16) (w:World) :
  (binOp .eql 26 (.agg (zaq s xs)) (.agg (zaq t ys))).run prog w = .ok (.bool (decide (s=t∧xs=ys))) w:=by
 rw [run_eql_struct,show (10000:Nat)=9997+3 from rfl,zht w 9997 s t xs ys hx hy]
 rfl
theorem zpx (s t:Int) (xs ys:List UInt8) (hx:xs.length=16) (hy:ys.length=16) (w:World) :
  (binOp .neq 26 (.agg (zaq s xs)) (.agg (zaq t ys))).run prog w = .ok (.bool (!decide (s=t∧xs=ys))) w:=by
 rw [run_neq_struct,show (10000:Nat)=9997+3 from rfl,zht w 9997 s t xs ys hx hy]
 rfl
theorem zvY (s t k m:Int) (xs ys:List UInt8) (hx:xs.length=16) (hy:ys.length=16) (w:World) :
  (binOp .eql 189 (.agg (zbB s xs k)) (.agg (zbB t ys m))).run prog w = .ok (.bool (decide (s=t∧xs=ys∧k=m))) w:=by
 rw [run_eql_struct,show (10000:Nat)=9996+4 from rfl,zsK w 9996 s t k m xs ys hx hy]
 rfl
open Go.RowKit
section
variable {ops:Array Oper} {rest:List Oper} {o:Oper} {a:Act} {w:World} {Q:Exit→Act→World→Prop}
theorem zir (hw:Region.wanted o (yielded ops a.tmps)=true) (x y:Operand) (ho:o.op = .binOp .eql 189 x y 189)
  {s t k m:Int} {xs ys:List UInt8} (hx:a.eval x = .agg (zbB s xs k)) (hy:a.eval y = .agg (zbB t ys m)) (lx:xs.length=16) (ly:ys.length=16)
  (hk:wpList prog ops Q rest (a.put o.dst (.bool (decide (s=t∧xs=ys∧k=m)))) w):wpList prog ops Q (o::rest) a w:=by
 unfold wpList
 rw [if_pos hw]
 refine .inl ?_
 have hg:prog.eqGuardType prog.depth 189=false:=by kernel_rfl
 have hg':=run_eqGuard_agg (P:=prog) w .eql 189 x y (zbB s xs k) (zbB t ys m) hg
 unfold Oper.wp execOp
 simp only [ho,hx,hy,Sem.run_bind,hg',Result.andThen_ok,zvY s t k m xs ys lx ly]
 exact hk
theorem zdG (hw:Region.wanted o (yielded ops a.tmps)=true) (x y:Operand) (ho:o.op = .binOp .eql 26 x y 26)
  {s t:Int} {xs ys:List UInt8} (hx:a.eval x = .agg (zaq s xs)) (hy:a.eval y = .agg (zaq t ys)) (lx:xs.length=16) (ly:ys.length=16)
  (hk:wpList prog ops Q rest (a.put o.dst (.bool (decide (s=t∧xs=ys)))) w):wpList prog ops Q (o::rest) a w:=by
 unfold wpList
 rw [if_pos hw]
 refine .inl ?_
 have hg:prog.eqGuardType prog.depth 26=false:=by kernel_rfl
 have hg':=run_eqGuard_agg (P:=prog) w .eql 26 x y (zaq s xs) (zaq t ys) hg
 unfold Oper.wp execOp
 simp only [ho,hx,hy,Sem.run_bind,hg',Result.andThen_ok,zlL s t xs ys lx ly]
 exact hk
end
open Go.RowKit
theorem zcW (w:World) (s:Int) :
  Calls prog 102 #[.int .i64 s] w fun e w'=>e = .returned (.bool (zcV s))∧w=w':=by
 have h:zcV s=decide (s=0∨s=4∨s=16):=rfl
 by_cases h0:s=0
 ·subst h0
  have h':zcV 0=true:=rfl
  rw [h']
  clear h h'
  go_enter func102,ntmps102
  go_wp2
  go_ret
  exact ⟨rfl,rfl⟩
 ·by_cases h4:s=4
  ·subst h4
   have h':zcV 4=true:=rfl
   rw [h']
   clear h h' h0
   go_enter func102,ntmps102
   go_wp2
   go_ret
   exact ⟨rfl,rfl⟩
  ·by_cases h6:s=16
   ·subst h6
    have h':zcV 16=true:=rfl
    rw [h']
    clear h h' h0 h4
    go_enter func102,ntmps102
    go_wp2
    go_ret
    exact ⟨rfl,rfl⟩
   ·have h':zcV s=false:=by rw [h];simp [h0,h4,h6]
    rw [h']
    clear h h'
    have e0:(s==0)=false:=by simpa using h0
    have e4:(s==4)=false:=by simpa using h4
    have e6:(s==16)=false:=by simpa using h6
    clear h0 h4 h6
    go_enter func102,ntmps102
    go_wp2
    go_ret
    exact ⟨rfl,rfl⟩
set_option maxHeartbeats 800000 in
theorem zcx (w:World) (s:Int) (bs:List UInt8) (hl:bs.length=16) :
  Calls prog 60 #[.agg (zaq s bs)] w fun e w'=>e = .returned (.bool (zay s bs))∧Below w.heap.size w w':=by
 have c0:=zgl s bs
 have HL:=hD hl
 have HA:Hid (At (w.alloc (.cells (zaq s bs) 26)) w.heap.size (w.heap.size+1) (some ⟨w.heap.size,1,none⟩) 16 bs):=At.addr (Blk.new w _ _) hl
 clear hl
 by_cases hs:zcV s=true
 ·have:s=0∨s=4∨s=16:=of_decide_eq_true hs
  have HS:=hD hs
  clear hs
  rcases this with rfl | rfl | rfl
  case' inl =>
   have HAT:Hid (At (w.alloc (.cells (zaq 0 bs) 26)) w.heap.size (w.heap.size+1) (some ⟨w.heap.size,1,none⟩) 16 (bs.drop 0)):=HA
   have HR:Hid (zay 0 bs=(bs.drop 0).all (· == 0)):=by unfold zay;rw [HS.o];rfl
  case' inr.inl =>
   have HAT:Hid (At (w.alloc (.cells (zaq 4 bs) 26)) w.heap.size (w.heap.size+1) (some ⟨w.heap.size,5,none⟩) 12 (bs.drop 4)):=HA.o.tail (k:=4) (c:=16) (by omega) (by omega)
   have HR:Hid (zay 4 bs=(bs.drop 4).all (· == 0)):=by unfold zay;rw [HS.o];rfl
  case inr.inr =>
   have hr:zay 16 bs=true:=by
    unfold zay
    rw [HS.o,List.drop_of_length_le (by rw [HL.o];decide)]
    rfl
   rw [hr]
   clear hr
   go_enter func60,ntmps60
   go_wp2_with (go_at_call 102;refine (zcW _ _).mono ?_;rintro e w1 ⟨rfl,rfl⟩;rw [HS.o])
   refine wp_loop_rounds 1 ?_
   rw [rounds_succ]
   go_wp2
   go_ret
   exact ⟨rfl,(Below.refl _ _).alloc lr _⟩
  all_goals
   generalize bs.drop _=zs at HAT HR
   have HLEN:=hD HAT.o.len
   go_enter func60,ntmps60
   go_wp2_with (go_at_call 102;refine (zcW _ _).mono ?_;rintro e w1 ⟨rfl,rfl⟩;rw [HS.o])
   go_loop [14] (fun i=>∃ k:Nat,k≤zs.length∧i = .int .i64 k∧(zs.take k).all (· == 0)=true) (fun i=>zs.length-(intOf i).toNat)
   case atStart=>exact ⟨0,Nat.zero_le _,rfl,rfl⟩
   case round =>
    obtain ⟨k,hk,rfl,hall⟩:=hrel
    have HALL:=hD hall
    clear hall
    by_cases hlt:k<zs.length
    ·have hlt':=hlt
     rw [HLEN.o] at hlt'
     obtain ⟨b,o,u,hA,hu,hc⟩:=HAT.o.at_ hlt'
     simp only [Option.some.injEq,Addr.mk.injEq,and_true] at hA
     obtain ⟨rfl,rfl⟩:=hA
     have HU:=hD hu
     clear hu hlt
     by_cases hb:u=0
     ·subst hb
      go_wp2
      go_round
      case rel=>exact ⟨k+1,by rw [HLEN.o];omega,by go_num,by rw [zlY HU.o,HALL.o];rfl⟩
      case measure=>rw [HLEN.o];simp [intOf];omega
     ·have hb':((u.toNat:Int) != 0)=true:=by
       have:u.toNat≠0:=fun e=>hb (UInt8.toNat_inj.1 e)
       simp;omega
      have HB:=hD hb
      clear hb
      go_wp2
      go_ret
      exact ⟨by rw [HR.o,zur HU.o (by simpa using HB.o)];rfl,(Below.refl _ _).alloc lr _⟩
    ·obtain rfl:k=zs.length:=by omega
     rw [List.take_length] at HALL
     have hz:=HLEN.o
     rw [hz]
     have HZ:=hD hz
     clear hz hlt hk
     go_wp2
     go_ret
     exact ⟨by rw [HR.o,HALL.o];rfl,(Below.refl _ _).alloc lr _⟩
 ·have hs':zcV s=false:=by simpa using hs
  have hr:zay s bs=false:=by unfold zay;rw [hs'];rfl
  rw [hr]
  have HS:=hD hs'
  clear hs hs' hr
  go_enter func60,ntmps60
  go_wp2_with (go_at_call 102;refine (zcW _ _).mono ?_;rintro e w1 ⟨rfl,rfl⟩;rw [HS.o])
  go_ret
  exact ⟨rfl,(Below.refl _ _).alloc lr _⟩
theorem zc0 (w:World) (s:Int) (bs:List UInt8) (hl:bs.length=16) :
  Calls prog 107 #[.agg (zaq s bs)] w fun e w'=>∃ v,e = .returned v∧w'.ownsRow w.heap.size 5 1 v (zav s bs).length (bvs (zav s bs))∧Below w.heap.size w w':=by
 have c0:=zgl s bs
 have HB:=hD (Blk.new w 26 (zaq s bs))
 have HA:Hid (At (w.alloc (.cells (zaq s bs) 26)) w.heap.size (w.heap.size+1) (some ⟨w.heap.size,1,none⟩) 16 bs):=At.addr HB.o hl
 have HL:=hD hl
 clear hl
 by_cases hr:zay s bs=true
 ·have hb:zav s bs=bs.take s.toNat:=by unfold zav;rw [if_pos hr]
  have:s=0∨s=4∨s=16:=by
   unfold zay at hr
   simp only [Bool.and_eq_true] at hr
   exact of_decide_eq_true hr.1
  have HR:=hD hr
  rw [hb]
  clear hr hb
  rcases this with rfl | rfl | rfl
  all_goals
   go_enter func107,ntmps107
   go_wp2_with (first
    | (with_reducible refine zaK rfl (.tmp 1) rfl w.heap.size rfl HB.o HL.o ?_)
    | (go_at_call 60;refine (zcx _ _ bs HL.o).mono ?_;rintro e w1 ⟨rfl,hb1⟩;rw [HR.o];have HB1:=hD (HB.o.below hb1 (by simp));have k0:=(HB1.o.cell 0).trans (zgl _ bs);have HW1:=hD hb1;have HAT:=hD (At.addr HB1.o HL.o);have hz1:=hb1.size;clear hb1)
    | (go_at_call 68;go_must (refine (zgT _ w.heap.size (w.heap.size+1) _ _ _ _ (HAT.o.head (by decide)) (by simpa using hz1) (by decide)).mono ?_);rintro e w2 ⟨v,rfl,hown,hbel⟩))
   go_ret
   have hz2:w.heap.size≤w1.heap.size:=by simp at hz1;omega
   have hlen:∀ k,k≤16→(bs.take k).length=k:=fun k hk=>by rw [List.length_take,HL.o];omega
   exact ⟨_,rfl,by rw [hlen _ (by decide)];exact zaC hown hz2,((Below.refl _ _).alloc lr _ |>.trans (HW1.o.mono (by simp))).trans (hbel.mono hz2)⟩
 ·have hr':zay s bs=false:=by simpa using hr
  have hb:zav s bs=[]:=by unfold zav;rw [if_neg hr]
  have HR:=hD hr'
  rw [hb]
  clear hr hb hr'
  go_enter func107,ntmps107
  go_wp2_with (first
   | (with_reducible refine zaK rfl (.tmp 1) rfl w.heap.size rfl HB.o HL.o ?_)
   | (go_at_call 60;refine (zcx _ _ bs HL.o).mono ?_;rintro e w1 ⟨rfl,hb1⟩;rw [HR.o]))
  go_ret
  exact ⟨_,rfl,World.ownsRow_nil _ _ _ _,(Below.refl _ _).alloc lr _ |>.trans (hb1.mono (by simp))⟩
theorem zdy (w:World) (s:Int) (bs:List UInt8) (hl:bs.length=16) :
  Calls prog 127 #[.agg (zaq s bs)] w fun e w'=>e = .returned (.bool (zcw s bs))∧Below w.heap.size w w':=by
 obtain ⟨b,hb⟩:∃ b,bs[0]?=some b:=⟨bs[0]'(by omega),List.getElem?_eq_getElem _⟩
 have c0:=zgl s bs
 have c1:(zaq s bs)[1]?=some (.int .u8 (b.toNat:Int)):=zhu s hb
 have HB:=hD (Blk.new w 26 (zaq s bs))
 have hm:=zs7 s bs hb
 have HL:=hD hl
 clear hl hb
 have hbl:=b.toNat_lt
 obtain ⟨r,HR⟩:∃ r:Bool,Hid (zay s bs=r):=⟨_,hD rfl⟩
 rw [HR.o] at hm
 have HM:=hD hm
 clear hm
 rcases (show s=4∨s=16∨(s≠4∧s≠16) by omega) with rfl | rfl | ⟨h4,h6⟩
 case' inl =>
  obtain ⟨q,hq,hqv⟩:∃ q:Bool,(((b.toNat:Int)/16==14)=q)∧q=decide (224≤b.toNat∧b.toNat<240):=⟨_,rfl,by rw [Bool.eq_iff_iff];simp;omega⟩
  have HV:Hid (zcw 4 bs=(r&&q)):=hD (by rw [HM.o,hqv];simp)
 case' inr.inl =>
  obtain ⟨q,hq,hqv⟩:∃ q:Bool,(((b.toNat:Int)==255)=q)∧q=decide (b.toNat=255):=⟨_,rfl,by rw [Bool.eq_iff_iff];simp;omega⟩
  have HV:Hid (zcw 16 bs=(r&&q)):=hD (by rw [HM.o,hqv];simp)
 case' inr.inr =>
  have e4:(s==4)=false:=by simpa using h4
  have e6:(s==16)=false:=by simpa using h6
  have HV:Hid (zcw s bs=(r&&false)):=hD (by rw [HM.o];simp [h4,h6])
  obtain ⟨q,hqv⟩:∃ q:Bool,q=false:=⟨_,rfl⟩
  clear h4 h6
 all_goals
  clear hqv HM
  cases r <;> cases q
 all_goals
  rw [HV.o]
  simp only [Bool.and_false,Bool.and_true]
  go_enter func127,ntmps127
  go_wp2_with (first
   | (with_reducible refine zaK rfl (.tmp 1) rfl w.heap.size rfl HB.o HL.o ?_)
   | (go_at_call 60;refine (zcx _ _ bs HL.o).mono ?_;rintro e w1 ⟨rfl,hb1⟩;rw [HR.o]))
  go_ret
  exact ⟨rfl,(Below.refl _ _).alloc lr _ |>.trans (hb1.mono (by simp))⟩
open Go.RowKit
theorem zqj {s:Int} {bs:List UInt8} (h:zay s bs=true):s=0∨s=4∨s=16:=by
 unfold zay at h
 simp only [Bool.and_eq_true] at h
 exact of_decide_eq_true h.1
theorem of_no (w:World) (A:Option Addr) (n c:Nat) (hs:zcV n=false) :
  Calls prog 73 #[.slice A n c] w fun e w'=>e = .returned (.tuple #[.agg (zaq 0 zas),.int .i64 1])∧Below w.heap.size w w':=by
 have HS:=hD hs
 clear hs
 go_enter func73,ntmps73
 go_wp2_with (first
  | (go_at_call 102;refine (zcW _ _).mono ?_;rintro e w1 ⟨rfl,rfl⟩;rw [HS.o])
  | (refine zaI rfl (.tmp 2) (.tmp 9) rfl w.heap.size rfl (s:=0) (bs:=zas) (congrArg Value.agg (zew 0)).symm zbd (Blk.new w _ _) rfl ?_;intro w2 hb2 hg2))
 refine zmD (p:=2) (q:=3) (v:=.int .i64 1) rfl rfl rfl hb2 zbd rfl ?_
 exact ⟨rfl,((Below.refl _ _).alloc lr _).grown hg2 (by simp) (by simp)⟩
theorem zdf (w:World) (o:Obj) (t:TypeId) (cs:Array Value):Blk ((w.alloc o).alloc (.cells cs t)) (w.heap.size+1) t cs:=heap_alloc2_new w o _
theorem zr4 {n:Nat} (h:zcV n=true):n=0∨n=4∨n=16:=by
 have:(n:Int)=0∨(n:Int)=4∨(n:Int)=16:=of_decide_eq_true h
 omega
theorem zn6 {xs:List UInt8} (h:xs.length≤16):(pad xs).length=16:=by unfold pad;simp;omega
theorem zhV {w:World} {ops:Array Oper} {rest:List Oper} {o:Oper} {a:Act} {Q:Exit→Act→World→Prop} (hgd:o.guard=none) (d s:Operand)
  (ho:o.op = .call { callee:=.builtin .copy,args:=#[d,s],argTypes:=#[22,22] })
  (g n c lo hi:Nat) (A:Option Addr) (bs:List UInt8) (z:Int) (hg:Blk w g 26 (zaq z zas)) (hr:At w lo hi A n bs) (hn:n≤16)
  (hd:a.eval d = .slice (some ⟨g,1,none⟩) 16 16) (hs:a.eval s = .slice A n c)
  (h:∀ w',Blk w' g 26 (zaq z (pad bs))→w.grownBy w' (some g)→wpList prog ops Q rest (a.put o.dst (goInt n)) w'):wpList prog ops Q (o::rest) a w:=by
 have hl:=hr.len
 have hsz:(prog.info? 5).map (·.size)=some 1:=by kernel_rfl
 rcases Nat.eq_zero_or_pos n with h0 | h0
 ·subst h0
  have:bs=[]:=List.eq_nil_of_length_eq_zero hl
  subst this
  refine wpList_copy_nothing hgd d s 22 22 ho 5 underlying22 hsz _ _ _ _ _ _ hd hs (by simp) ?_
  exact h w hg (zad w _)
 ·obtain ⟨ad,rfl,hc⟩:=hr.cells h0
  have hb:=zaX bs
  refine wpList_copy_own hgd d s 22 22 ho 5 underlying22 hsz g 1 16 16 ad n c hd hs (zaq z zas) 26 hg (bvs bs) (by rw [hb,hl];exact (Nat.min_eq_left hn).symm) hc
   (by rw [zcv z zbd,hb,hl];omega) (zbM _) ?_
  rw [hb,hl]
  have e:((zaq z zas).toList.take 1++(bvs bs++(zaq z zas).toList.drop (1+n))).toArray=zaq z (pad bs):=by
   unfold zaq pad
   refine congrArg List.toArray ?_
   simp only [List.take_succ_cons,List.take_zero,List.cons_append,List.nil_append]
   rw [zdE,Nat.add_comm,List.drop_succ_cons,hl]
   refine congrArg (fun l=>_::(_++l)) ?_
   unfold bvs zas
   rw [← List.map_drop,List.drop_replicate]
  rw [e]
  exact h _ (hg.setRow _) (zaB _ _ _)
theorem of_yes (w:World) (lo hi:Nat) (A:Option Addr) (n c:Nat) (xs:List UInt8) (h:At w lo hi A n xs) (hh:hi≤w.heap.size) (hs:zcV n=true) :
  Calls prog 73 #[.slice A n c] w fun e w'=>e = .returned (.tuple #[.agg (zaq n (pad xs)),.int .i64 0])∧Below w.heap.size w w':=by
 have hn16:n≤16:=by rcases zr4 hs with h | h | h <;> omega
 have HS:=hD hs
 have H:=hD h
 have HPL:=hD (zn6 (xs:=xs) (by rw [h.len];exact hn16))
 clear hs h
 go_enter func73,ntmps73
 go_wp2_with (first
  | (go_at_call 102;refine (zcW _ _).mono ?_;rintro e w1 ⟨rfl,rfl⟩;rw [HS.o])
  | (refine zaI rfl (.tmp 4) (.tmp 12) rfl (w.heap.size+1) rfl (s:=n) (bs:=zas) (congrArg Value.agg (zew n)).symm zbd (zdf w _ _ _) rfl ?_;intro w2 hb2 hg2;have HB2:=hD hb2;have HG2:=hD hg2;clear hb2 hg2;have HA2:=hD ((H.o.alloc hh _).alloc (by simp;omega) _ |>.grown HG2.o (by simp;omega) (by intro g hg;injection hg;omega));have HZ2:=hD ((Blk.new w _ _).alloc _ |>.grown HG2.o (by simp)))
  | (with_reducible refine zhV rfl (.tmp 14) (.tmp 15) rfl (w.heap.size+1) n c lo hi A xs n HB2.o HA2.o hn16 rfl rfl ?_;intro w3 hb3 hg3;have HB3:=hD hb3;have HG3:=hD hg3;clear hb3 hg3;have HZ3:=hD (HZ2.o.grown HG3.o (by simp)))
  | (with_reducible refine zaK rfl (.tmp 4) rfl (w.heap.size+1) rfl HB3.o HPL.o ?_)
  | (refine zaI rfl (.tmp 2) (.tmp 17) rfl w.heap.size rfl (s:=n) (bs:=pad xs) rfl HPL.o HZ3.o rfl ?_;intro w4 hb4 hg4;have HB4:=hD hb4;have HG4:=hD hg4;clear hb4 hg4))
 refine zmD (p:=2) (q:=3) (v:=.int .i64 0) rfl rfl rfl HB4.o HPL.o rfl ?_
 refine ⟨rfl,?_⟩
 have k0:=((Below.refl w.heap.size w).alloc lr (.cells zAdr 26))
 have k1:=k0.alloc (by simp) (.cells zAdr 26)
 have k2:=k1.grown HG2.o (by simp;omega) (by simp)
 have k3:=k2.grown HG3.o k2.size (by simp)
 exact k3.grown HG4.o k3.size (by simp)
theorem zgF (w:World) (lo hi:Nat) (A:Option Addr) (n c:Nat) (xs:List UInt8) (h:At w lo hi A n xs) (hh:hi≤w.heap.size) :
  Calls prog 73 #[.slice A n c] w fun e w'=>e = .returned (.tuple #[.agg (zaq (ofS xs) (ofB xs)),.int .i64 (ofE xs)])∧Below w.heap.size w w':=by
 unfold ofS ofB ofE
 rw [h.len]
 by_cases hs:zcV n=true
 ·rw [if_pos hs,if_pos hs,if_pos hs]
  exact of_yes w lo hi A n c xs h hh hs
 ·rw [if_neg hs,if_neg hs,if_neg hs]
  exact of_no w A n c (by simpa using hs)
theorem zvG (w:World) (k:Int) :
  Calls prog 220 #[.int .i64 k] w fun e w'=>e = .returned (.int .u8 ((zom k).toNat:Int))∧w'=w:=by
 have hm:=zti k
 unfold zvH at hm
 by_cases h8:8≤k
 ·rw [if_pos h8] at hm
  rw [hm]
  clear hm
  go_enter func220,ntmps220
  go_wp2
  go_ret
  exact ⟨rfl,rfl⟩
 ·rw [if_neg h8] at hm
  by_cases h0:k≤0
  ·rw [if_pos h0] at hm
   rw [hm]
   clear hm
   go_enter func220,ntmps220
   go_wp2
   go_ret
   exact ⟨rfl,rfl⟩
  ·rw [if_neg h0] at hm
   rw [hm]
   clear hm
   rcases (show k=1∨k=2∨k=3∨k=4∨k=5∨k=6∨k=7 by omega) with rfl | rfl | rfl | rfl | rfl | rfl | rfl
   all_goals
    clear h8 h0
    go_enter func220,ntmps220
    go_wp2
    go_ret
    exact ⟨rfl,rfl⟩
theorem zno (s k:Int) (b0 b1 b2 b3 b4 b5 b6 b7 b8 b9 b10 b11 b12 b13 b14 b15:UInt8):prog.built 189 [(0,.agg (zaq s [b0,b1,b2,b3,b4,b5,b6,b7,b8,b9,b10,b11,b12,b13,b14,b15])),(1,.int .i64 k)]=some (zbB s [b0,b1,b2,b3,b4,b5,b6,b7,b8,b9,b10,b11,b12,b13,b14,b15] k):=by
 kernel_rfl
theorem zkK (s k:Int) (bs:List UInt8) (hl:bs.length=16):prog.built 189 [(0,.agg (zaq s bs)),(1,.int .i64 k)]=some (zbB s bs k) :=
 match bs,hl with
 | [b0,b1,b2,b3,b4,b5,b6,b7,b8,b9,b10,b11,b12,b13,b14,b15],_=>zno s k b0 b1 b2 b3 b4 b5 b6 b7 b8 b9 b10 b11 b12 b13 b14 b15
theorem zec {ops:Array Oper} {rest:List Oper} {o:Oper} {a:Act} {w:World} {Q:Exit→Act→World→Prop} (hgd:o.guard=none) (x y:Operand) (ho:o.op = .build 189 #[(0,x),(1,y)])
  {s k:Int} {bs:List UInt8} (hl:bs.length=16) (hx:a.eval x = .agg (zaq s bs)) (hy:a.eval y = .int .i64 k)
  (hk:wpList prog ops Q rest (a.put o.dst (.agg (zbB s bs k))) w):wpList prog ops Q (o::rest) a w :=
 wpList_buildTo hgd 189 #[(0,x),(1,y)] ho o.dst rfl _ (by simp only [List.map_toArray,List.map_cons,List.map_nil,hx,hy];exact zkK s k bs hl) hk
theorem and_u8 (a b:UInt8):bits .and .u8 (a.toNat:Int) (b.toNat:Int)=((a &&& b).toNat:Int):=by
 show IntKind.u8.wrap ((BitVec.ofInt 8 (a.toNat:Int) &&& BitVec.ofInt 8 (b.toNat:Int)).toNat:Int)=_
 have h1:∀ x:UInt8,BitVec.ofInt 8 (x.toNat:Int)=x.toBitVec:=fun x=>by
  rw [BitVec.ofInt_natCast];simp
 rw [h1,h1]
 have:(a.toBitVec &&& b.toBitVec).toNat=(a &&& b).toNat:=rfl
 rw [this]
 have:=(a &&& b).toNat_lt
 rw [IntKind.wrap_u8]
 omega
theorem zus (s:Int) (l:List UInt8) (k:Nat) (b:UInt8):(zaq s l).setIfInBounds (1+k) (.int .u8 (b.toNat:Int))=zaq s (l.set k b):=by
 unfold zaq bvs
 rw [List.setIfInBounds_toArray,Nat.add_comm,List.set_cons_succ,List.map_set]
 rfl
theorem zyu (w:World) (s bits:Int) (bs:List UInt8) (hl:bs.length=16) (hr:zay s bs=true) (h0:s≠0) (h1:0≤bits) (h2:bits≤8*s) :
  Calls prog 203 #[.agg (zaq s bs),.int .i64 bits] w fun e w'=>e = .returned (.tuple #[.agg (zbB s (cutB bits bs) bits),.int .i64 0])∧Below w.heap.size w w':=by
 have hs:s=4∨s=16:=by
  have hr':=hr
  unfold zay at hr'
  simp only [Bool.and_eq_true] at hr'
  have:s=0∨s=4∨s=16:=of_decide_eq_true hr'.1
  omega
 have HL:=hD hl
 have HR:=hD hr
 have HB:=hD ((Blk.new w 26 (zaq s bs)).alloc (.cells zPre 189))
 have HZ:=hD (zkw 0 0)
 clear hl hr h0
 rcases hs with rfl | rfl
 all_goals
  have h2':bits≤_:=h2
  simp only [Int.reduceMul] at h2'
  clear h2
  go_enter func203,ntmps203
  go_wp2_with (first
   | (with_reducible refine zaK rfl (.tmp 2) rfl w.heap.size rfl HB.o HL.o ?_)
   | (go_at_call 60;refine (zcx _ _ bs HL.o).mono ?_;rintro e w1 ⟨rfl,hb1⟩;rw [HR.o];have HB1:=hD (HB.o.below hb1 (by simp;omega));have HZ1:=hD ((zdf w _ _ _).below hb1 (by simp));have HW1:=hD hb1;have k0:=(HB1.o.cell 0).trans (zgl _ bs);clear hb1))
  go_loopw [27] (fun i wr=>∃ k:Nat,k≤16∧i = .int .i64 k∧Blk wr w.heap.size 26 (zaq _ (cutK bits k bs))∧Blk wr (w.heap.size+1) 189 (zbB 0 zas 0)∧Below w.heap.size w wr) (fun i _=>16-(intOf i).toNat)
  case atStart =>
   exact ⟨0,Nat.zero_le _,rfl,by rw [ztN];exact HB1.o,by rw [HZ.o];exact HZ1.o,((((Below.refl _ _).alloc lr _).alloc (by simp) _)).trans (HW1.o.mono (by simp;omega))⟩
  case round =>
   obtain ⟨k,hk,rfl,hbk,hzk,hbel⟩:=hrel
   have HBK:=hD hbk
   have HZK:=hD hzk
   have HBL:=hD hbel
   clear hbk hzk hbel k0
   by_cases hlt:k<16
   ·obtain ⟨b,hb⟩:∃ b,bs[k]?=some b:=⟨bs[k]'(by rw [HL.o];exact hlt),List.getElem?_eq_getElem _⟩
    have hcell:=(HBK.o.cell (1+k)).trans (zhu _ (zv4 bits k bs hb))
    have hfz:=HBK.o.frozen (1+k)
    have hand:=and_u8 b (zom (bits-8*(k:Int)))
    have HS:=hD (ztO bits k bs hb)
    clear hb
    go_wp2_with fail
    refine wp_region_still_tail 12 (by kernel_rfl) (by kernel_rfl) ?_
    simp only [List.take_succ_cons,List.take_zero,List.drop_succ_cons,List.drop_zero]
    repeat (first | still_call (zvG _ _) | still_step)
    refine wpStill_nil ?_
    go_wp2_with fail
    go_roundw
    case rel =>
     refine ⟨k+1,by omega,by go_num,?_,?_,?_⟩
     ·have h:=(Blk.drew HBK.o).set_ (1+k) (.int .u8 ((b &&& zom (bits-8*(k:Int))).toNat:Int))
      rw [zus,HS.o] at h
      exact h
     ·exact (Blk.drew HZK.o).far (by simp) _
     ·exact zc2 (zaj HBL.o) (by simp) _
    case measure=>simp [intOf];omega
   ·obtain rfl:k=16:=by omega
    have HPL:=hD ((zpG bits 16 bs).trans HL.o)
    have HBP:=fun s=>hD (zkK s bits (cutK bits 16 bs) HPL.o)
    go_wp2_with (first
     | (with_reducible refine zaK rfl (.tmp 2) rfl w.heap.size rfl HBK.o HPL.o ?_)
     | (with_reducible refine zec rfl (.tmp 43) (.tmp 44) rfl HPL.o rfl rfl ?_)
     | (refine zc6 rfl (.tmp 4) (.tmp 45) rfl (w.heap.size+1) rfl rfl HPL.o HZK.o rfl ?_;intro w4 hb4 hg4;have HB4:=hD hb4;have HG4:=hD hg4;clear hb4 hg4))
    refine zmB (p:=4) (q:=5) (v:=.int .i64 0) rfl rfl rfl HB4.o HPL.o rfl ?_
    exact ⟨rfl,HBL.o.grown HG4.o HBL.o.size (by simp)⟩
open Go.RowKit
theorem cut_no (w:World) (s bits:Int) (bs:List UInt8) (hl:bs.length=16) (hs : -9223372036854775808≤s∧s≤9223372036854775807) (hc:zh5 s bs bits=false) :
  Calls prog 203 #[.agg (zaq s bs),.int .i64 bits] w fun e w'=>e = .returned (.tuple #[.agg (zbB 0 zas 0),.int .i64 1])∧Below w.heap.size w w':=by
 have HL:=hD hl
 have HB:=hD ((Blk.new w 26 (zaq s bs)).alloc (.cells zPre 189))
 have HZ:=hD (zkw 0 0)
 clear hl
 obtain ⟨r,hr⟩:∃ r:Bool,zay s bs=r:=⟨_,rfl⟩
 have HR:=hD hr
 have hcase:r=false∨r=true∧s=0∨r=true∧s≠0∧bits<0∨r=true∧(s=4∨s=16)∧0≤bits∧8*s<bits:=by
  unfold zh5 at hc
  cases r with
  | false=>exact .inl rfl
  | true =>
   rw [hr] at hc
   have:=zqj hr
   simp at hc
   by_cases h0:s=0
   ·exact .inr (.inl ⟨rfl,h0⟩)
   ·by_cases hb:bits<0
    ·exact .inr (.inr (.inl ⟨rfl,h0,hb⟩))
    ·exact .inr (.inr (.inr ⟨rfl,by omega,by omega,hc h0 (by omega)⟩))
 clear hc hr hs
 rcases hcase with rfl | ⟨rfl,rfl⟩ | ⟨rfl,h0,hb⟩ | ⟨rfl,rfl | rfl,hb,h8⟩
 case' inr.inr.inl=>have h0':(s==0)=false:=by simpa using h0
 case' inr.inr.inr.inl=>simp only [Int.reduceMul] at h8
 case' inr.inr.inr.inr=>simp only [Int.reduceMul] at h8
 all_goals
  go_enter func203,ntmps203
  go_wp2_with (first
   | (with_reducible refine zaK rfl (.tmp 2) rfl w.heap.size rfl HB.o HL.o ?_)
   | (go_at_call 60;refine (zcx _ _ bs HL.o).mono ?_;rintro e w1 ⟨rfl,hb1⟩;rw [HR.o];have HB1:=hD (HB.o.below hb1 (by simp;omega));have HZ1:=hD ((zdf w _ _ _).below hb1 (by simp));have HW1:=hD hb1;have k0:=(HB1.o.cell 0).trans (zgl _ bs);clear hb1)
   | (refine zc6 rfl (.tmp 4) (.tmp 26) rfl (w.heap.size+1) rfl (congrArg Value.agg HZ.o).symm zbd HZ1.o rfl ?_;intro w4 hb4 hg4;have HB4:=hD hb4;have HG4:=hD hg4;clear hb4 hg4))
  refine zmB (p:=4) (q:=5) (v:=.int .i64 1) rfl rfl rfl HB4.o zbd rfl ?_
  have hw:Below w.heap.size w w1:=(((Below.refl _ _).alloc lr _).alloc (by simp) _).trans (HW1.o.mono (by simp;omega))
  exact ⟨rfl,hw.grown HG4.o hw.size (by simp)⟩
theorem zyv (w:World) (s bits:Int) (bs:List UInt8) (hl:bs.length=16) (hs : -9223372036854775808≤s∧s≤9223372036854775807) :
  Calls prog 203 #[.agg (zaq s bs),.int .i64 bits] w fun e w'=>e = .returned (.tuple #[.agg (zbB (cutS s bs bits) (zoF s bs bits) (cutN s bs bits)),.int .i64 (cutE s bs bits)])∧Below w.heap.size w w':=by
 unfold cutS zoF cutN cutE
 by_cases hc:zh5 s bs bits=true
 ·rw [if_pos hc,if_pos hc,if_pos hc,if_pos hc]
  unfold zh5 at hc
  simp only [Bool.and_eq_true,decide_eq_true_eq] at hc
  exact zyu w s bits bs hl hc.1 hc.2.1 hc.2.2.1 hc.2.2.2
 ·rw [if_neg hc,if_neg hc,if_neg hc,if_neg hc]
  exact cut_no w s bits bs hl hs (by simpa using hc)
theorem zyh (w:World) (sp kp:Int) (bp:List UInt8) (hp:bp.length=16) (s:Int) (bs:List UInt8) (hl:bs.length=16) (hs : -9223372036854775808≤s∧s≤9223372036854775807) :
  Calls prog 173 #[.agg (zbB sp bp kp),.agg (zaq s bs)] w fun e w'=>e = .returned (.bool (hasB sp bp kp s bs))∧Below w.heap.size w w':=by
 have HL:=hD hl
 have HPL:=hD hp
 have HCL:=hD (ztP s kp hl)
 have HB:Hid (Blk ((w.alloc (.cells (zbB sp bp kp) 189)).alloc (.cells (zaq s bs) 26)) (w.heap.size+1) 26 (zaq s bs)):=zdf w _ _ _
 have HP:Hid (Blk ((w.alloc (.cells (zbB sp bp kp) 189)).alloc (.cells (zaq s bs) 26)) w.heap.size 189 (zbB sp bp kp)):=(Blk.new w _ _).alloc _
 have k17:=(HP.o.cell 17).trans (zlj sp kp hp)
 have k17':=zlj sp kp hp
 have HS:=hD hs
 clear hl hp hs
 obtain ⟨c,hc⟩:∃ c:Bool,zh5 s bs kp=c:=⟨_,rfl⟩
 have HC:=hD hc
 have hcv:cutE s bs kp=if c=true then 0 else 1:=by unfold cutE;rw [hc]
 have hv:hasB sp bp kp s bs=(c&&decide (cutS s bs kp=sp∧zoF s bs kp=bp∧cutN s bs kp=kp)):=by
  cases c with
  | false=>unfold hasB;rw [hc];rfl
  | true=>rw [← zyi sp bp kp s bs hc];rfl
 rw [hv]
 clear hc hv
 cases c
 all_goals
  simp only [Bool.false_eq_true,if_false,if_true,Bool.false_and,Bool.true_and] at hcv ⊢
  have HCV:=hD hcv
  clear hcv
  go_enter func173,ntmps173
  go_wp2_with (first
   | (with_reducible refine zaK rfl (.tmp 3) rfl (w.heap.size+1) rfl HB.o HL.o ?_)
   | (go_at_call 203;refine (zyv _ s kp bs HL.o HS.o).mono ?_;rintro e w1 ⟨rfl,hb1⟩;rw [HCV.o];have HP1:=hD (HP.o.below hb1 (by simp;omega));have HW1:Hid (Below w.heap.size w w1):=(((Below.refl _ _).alloc lr _).alloc (by simp) _).trans (hb1.mono (by simp;omega));clear hb1)
   | (refine zc6 rfl (.tmp 5) (.tmp 12) rfl w1.heap.size rfl rfl HCL.o (Blk.new w1 _ _) rfl ?_;intro w4 hb4 hg4;have HB4:=hD hb4;have HG4:=hD hg4;have HP4:=hD ((HP1.o.alloc _).grown hg4 (by have:=HP1.o.lt;simp;omega));clear hb4 hg4)
   | ((with_reducible refine zdW ?_ (.tmp 5) rfl w1.heap.size rfl HB4.o HCL.o ?_);· rfl)
   | ((with_reducible refine zdW ?_ (.tmp 2) rfl w.heap.size rfl HP4.o HPL.o ?_);· rfl)
   | ((with_reducible refine zir ?_ (.tmp 17) (.tmp 18) rfl rfl rfl HCL.o HPL.o ?_);· rfl))
  go_ret
  exact ⟨by first | rfl | simp,(HW1.o.alloc HW1.o.size _).grown HG4.o (by have:=HW1.o.size;simp;omega) (by intro g hg;injection hg with hg;subst hg;exact HW1.o.size)⟩
end
end Go.Proofs.YtplpglfjcieloaaGreatDoor
