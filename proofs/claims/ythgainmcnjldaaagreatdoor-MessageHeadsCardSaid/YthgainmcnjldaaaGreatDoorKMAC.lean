/-
  Addresses and prefixes as values and as blocks: their cells, and when two are equal. No condition.
  '==' at addresses and prefixes, as a step of the walk. No condition.
  What Right, Bytes, Of, Compare and Multicast of package addr do, in whatever memory. No condition beyond sizes that fit memory.
  What Of, mask, Cut and Has of package addr do, in whatever memory. No condition beyond sizes that fit memory.
  What Cut (all inputs) and Has of package addr do, in whatever memory. No condition.
  How the arguments of a statement are opened: a slice of bytes that came in reads as bytes, and is no longer than the form's reach. No condition.
  Operations that are run where one alone may come up: append, a conversion, make, a store. No condition.
  What has turned between two worlds: the blocks of a set, and what is new. No condition. Nothing here speaks of the program.
  Parts of aggregates in the midst of a block: loads and stores of them; '==' field by field; texts compared; steps of regions that draw their order. No condition.
-/
import Derived.Stop.BytesEq
import Derived.StillTailTactics
import Derived.Great.BuildSlice
import Derived.ProofKit
import Derived.OpenShut
import Derived.ShutString
import Derived.ChangeOld
import Derived.SizedLaws
import Derived.Deep.SlicePairs
import Derived.Maps.OwnSet
import Derived.Deep.MidRow
import Derived.Laws.StructEq
import Derived.Test.YthgainmcnjldaaaGreatDoorKMAB
set_option linter.unusedVariables false
set_option linter.unusedSimpArgs false
namespace Go.Proofs.YthgainmcnjldaaaGreatDoor
section
set_option maxRecDepth 100000
open Go.RowKit
def zak (s:Int) (bs:List UInt8):Array Value:=(.int .i64 s::bvs bs).toArray
def zdw (s:Int) (bs:List UInt8) (k:Int):Array Value:=(.int .i64 s::(bvs bs++[.int .i64 k])).toArray
theorem za7 (s:Int) {bs:List UInt8} (h:bs.length=16):(zak s bs).size=17:=by simp [zak,bvs,h]
theorem zef (s:Int) (bs:List UInt8):(zak s bs)[0]?=some (.int .i64 s):=by simp [zak]
theorem zgk (s:Int) {bs:List UInt8} {i:Nat} {b:UInt8} (h:bs[i]?=some b):(zak s bs)[1+i]?=some (.int .u8 (b.toNat:Int)):=by
 rw [Nat.add_comm]
 simp [zak,bvs,h,bv]
theorem zhT (s:Int) {bs:List UInt8} (k:Int) (h:bs.length=16):(zdw s bs k)[17]?=some (.int .i64 k):=by
 simp [zdw,bvs,h,List.getElem?_append]
theorem At.addr {w:World} {g:Nat} {t:TypeId} {s:Int} {bs:List UInt8} (h:Blk w g t (zak s bs)) (hl:bs.length=16):At w g (g+1) (some ⟨g,1,none⟩) 16 bs :=
 ⟨hl,fun _=>⟨_,1,rfl,Nat.le_refl _,by omega,fun j u hu=>by rw [h.cell];exact zgk s hu⟩⟩
theorem zgj (s:Int) {bs:List UInt8} (h:bs.length=16):(zak s bs).extract 1 17=(bs.map Extern.Stop.cell).toArray:=by
 simp only [zak,List.extract_toArray]
 congr 1
 simp only [List.extract_eq_take_drop,List.drop_succ_cons,List.drop_zero]
 rw [List.take_of_length_le (by simp [bvs,h])]
 rfl
theorem zf6 (s:Int) {bs:List UInt8} (k:Int) (h:bs.length=16):(zdw s bs k).extract 0 17=zak s bs:=by
 simp only [zdw,zak,List.extract_toArray]
 congr 1
 simp only [List.extract_eq_take_drop,List.drop_zero]
 have e:(Value.int IntKind.i64 s::(bvs bs++[Value.int IntKind.i64 k]))=(Value.int IntKind.i64 s::bvs bs)++[Value.int IntKind.i64 k]:=rfl
 rw [e,List.take_append_of_le_length (by simp [bvs,h]),List.take_of_length_le (by simp [bvs,h])]
theorem zcX {P:Program} (w:World) (d:Nat) {xs ys:Array Value} {f g:Field} {a b c e:Value} {r1 r2:Bool} (hf:f.name ≠ "_") (hg:g.name ≠ "_")
  (h1:(part f.type xs f.offset).run P w = .ok a w) (h2:(part f.type ys f.offset).run P w = .ok b w) (h3:(Op.equalIn d f.type a b).run P w = .ok r1 w)
  (h4:(part g.type xs g.offset).run P w = .ok c w) (h5:(part g.type ys g.offset).run P w = .ok e w) (h6:(Op.equalIn d g.type c e).run P w = .ok r2 w) :
  (Op.eqFields d xs ys [f,g]).run P w = .ok (r1&&r2) w:=by
 simp only [Op.eqFields,if_pos hf,if_pos hg,Sem.run_bind,h1,h2,h3,Result.andThen_ok]
 cases r1
 ·simp
 ·simp only [Bool.not_true,Bool.false_eq_true,if_false,Sem.run_bind,h4,h5,h6,Result.andThen_ok]
  cases r2 <;> simp
theorem zcR (w:World) (d:Nat) (s t:Int) (xs ys:List UInt8) (hx:xs.length=16) (hy:ys.length=16) :
  (Op.equalIn (d+3) 37 (.agg (zak s xs)) (.agg (zak t ys))).run Tryz.prog w = .ok (decide (s=t∧xs=ys)) w:=by
 have hS:Tryz.prog.underlying 37=some (.struct (Tryz.prog.fieldsOf 37)):=by kernel_rfl
 have hp:Tryz.prog.stoodInHeld 37=false:=by kernel_rfl
 have pa:∀ (s:Int) (xs:List UInt8),xs.length=16→(part 35 (zak s xs) 1).run Tryz.prog w = .ok (.agg (xs.map Extern.Stop.cell).toArray) w:=fun s xs hx=>by
  have a22:=Tryz.isAgg35
  have s22:=Tryz.sizeOf35
  simp [part,a22,s22,zgj s hx]
 have pi:∀ (s:Int) (xs:List UInt8),(part 3 (zak s xs) 0).run Tryz.prog w = .ok (.int .i64 s) w:=fun s xs=>by
  have a3:=Tryz.isAgg3
  simp [part,a3,zef]
 have eb:=run_equalIn_bytes (P:=Tryz.prog) w d 35 5 16 Tryz.underlying35 Tryz.underlying5 Tryz.sizeOf5 xs ys hx hy
 have ei:=run_equalIn_int (P:=Tryz.prog) w (d+1) 3 .i64 .i64 s t Tryz.underlying3
 rw [run_equalIn_agg w (d+2) 37 _ _ hS hp]
 simp only [Program.fieldsOf,Tryz.underlying37]
 refine (zcX w (d+2) (of_decide_eq_true (by kernel_rfl)) (of_decide_eq_true (by kernel_rfl)) (pi s xs) (pi t ys) ei (pa s xs hx) (pa t ys hy) eb).trans ?_
 by_cases h1:s=t <;> by_cases h2:xs=ys <;> simp [h1,h2]
theorem ziQ (w:World) (d:Nat) (s t k m:Int) (xs ys:List UInt8) (hx:xs.length=16) (hy:ys.length=16) :
  (Op.equalIn (d+4) 198 (.agg (zdw s xs k)) (.agg (zdw t ys m))).run Tryz.prog w = .ok (decide (s=t∧xs=ys∧k=m)) w:=by
 have hS:Tryz.prog.underlying 198=some (.struct (Tryz.prog.fieldsOf 198)):=by kernel_rfl
 have hp:Tryz.prog.stoodInHeld 198=false:=by kernel_rfl
 have pa:∀ (s:Int) (xs:List UInt8) (k:Int),xs.length=16→(part 37 (zdw s xs k) 0).run Tryz.prog w = .ok (.agg (zak s xs)) w:=fun s xs k hx=>by
  have a22:=Tryz.isAgg37
  have s22:=Tryz.sizeOf37
  simp [part,a22,s22,zf6 s k hx]
 have pi:∀ (s:Int) (xs:List UInt8) (k:Int),xs.length=16→(part 3 (zdw s xs k) 17).run Tryz.prog w = .ok (.int .i64 k) w:=fun s xs k hx=>by
  have a3:=Tryz.isAgg3
  simp [part,a3,zhT s k hx]
 have eb:=zcR w d s t xs ys hx hy
 have ei:=run_equalIn_int (P:=Tryz.prog) w (d+2) 3 .i64 .i64 k m Tryz.underlying3
 rw [run_equalIn_agg w (d+3) 198 _ _ hS hp]
 simp only [Program.fieldsOf,Tryz.underlying198]
 refine (zcX w (d+3) (of_decide_eq_true (by kernel_rfl)) (of_decide_eq_true (by kernel_rfl)) (pa s xs k hx) (pa t ys m hy) eb (pi s xs k hx) (pi t ys m hy) ei).trans ?_
 by_cases h1:s=t <;> by_cases h2:xs=ys <;> by_cases h3:k=m <;> simp [h1,h2,h3]
theorem zeI {w:World} {g:Nat} {t:TypeId} {s:Int} {bs:List UInt8} (h:Blk w g t (zak s bs)) (hl:bs.length=16):(loadVar 37 ⟨g,0,none⟩).run Tryz.prog w = .ok (.agg (zak s bs)) w :=
 run_loadVar_row w g t 37 (zak s bs) (0,0) _ h Tryz.underlying37 rfl (by rw [za7 s hl];kernel_rfl)
theorem zbh {ops:Array Oper} {rest:List Oper} {o:Oper} {a:Act} {w:World} {Q:Exit→Act→World→Prop} (hgd:o.guard=none) (x:Operand) (ho:o.op = .load 37 x)
  (g:Nat) (hx:a.eval x = .pointer (some ⟨g,0,none⟩)) {t:TypeId} {s:Int} {bs:List UInt8} (h:Blk w g t (zak s bs)) (hl:bs.length=16)
  (hk:wpList Tryz.prog ops Q rest (a.put o.dst (.agg (zak s bs))) w):wpList Tryz.prog ops Q (o::rest) a w :=
 wpList_load_row hgd 37 x ho g hx t (zak s bs) (0,0) _ h Tryz.underlying37 rfl (by rw [za7 s hl];kernel_rfl) hk
theorem zeZ (s:Int) (bs:List UInt8):(zak s bs).all (·.oneCell')=true:=by
 rw [Array.all_eq_true_iff_forall_mem]
 intro v hv
 simp only [zak,List.mem_toArray,List.mem_cons] at hv
 rcases hv with rfl | hv
 ·rfl
 ·exact zbP bs v hv
theorem zaE (w:World) (g:Nat) (cs:Array Value):w.grownBy (w.setRow g cs) (some g) :=
 ⟨rfl,rfl,rfl,by simp [World.setRow],fun k _ hk=>setRow_other w g k cs (fun e=>hk (by rw [e]))⟩
theorem Blk.setRow {w:World} {g:Nat} {t:TypeId} {old:Array Value} (h:Blk w g t old) (cs:Array Value):Blk (w.setRow g cs) g t cs:=setRow_heap w g old cs t _ h
theorem zaZ {ops:Array Oper} {rest:List Oper} {o:Oper} {a:Act} {w:World} {Q:Exit→Act→World→Prop} (hgd:o.guard=none) (x y:Operand) (ho:o.op = .store 37 x y)
  (g:Nat) (hx:a.eval x = .pointer (some ⟨g,0,none⟩)) {s:Int} {bs:List UInt8} (hy:a.eval y = .agg (zak s bs)) (hl:bs.length=16) {t:TypeId} {old:Array Value} (h:Blk w g t old) (hold:old.size=17)
  (hk:∀ w',Blk w' g t (zak s bs)→w.grownBy w' (some g)→wpList Tryz.prog ops Q rest (a.put o.dst undef) w'):wpList Tryz.prog ops Q (o::rest) a w :=
 wpList_store_row hgd 37 x y ho g (zak s bs) hx hy t old h (by rw [za7 s hl];kernel_rfl) (by rw [za7 s hl,hold]) (zeZ s bs) (hk _ (h.setRow _) (zaE _ _ _))
theorem zev {fn:Func} {R:Ending→World→Prop} {a:Act} {w:World} {p q:Tmp} {g:Nat} {t:TypeId} {s:Int} {bs:List UInt8} {v:Value} (hf:fn.results=#[.cell p 37,.tmp q])
  (hp:a.tmps.getD p undef = .pointer (some ⟨g,0,none⟩)) (hq:a.tmps.getD q undef=v) (h:Blk w g t (zak s bs)) (hl:bs.length=16) (hd:a.defers=[]) (hR:R (.returned (.tuple #[.agg (zak s bs),v])) w) :
  bodyPost Tryz.prog fn R .ret a w:=by
 refine bodyPost_ret (v:=.tuple #[.agg (zak s bs),v]) ?_ hd hR
 have hp':a.tmps[p]?.getD undef = .pointer (some ⟨g,0,none⟩):=by simpa using hp
 have hq':a.tmps[q]?.getD undef=v:=by simpa using hq
 simp [results,hf,hp',hq',asAddr,zeI h hl]
theorem zew {fn:Func} {R:Ending→World→Prop} {a:Act} {w:World} {p:Tmp} {g:Nat} {t:TypeId} {s:Int} {bs:List UInt8} (hf:fn.results=#[.cell p 37])
  (hp:a.tmps.getD p undef = .pointer (some ⟨g,0,none⟩)) (h:Blk w g t (zak s bs)) (hl:bs.length=16) (hd:a.defers=[]) (hR:R (.returned (.agg (zak s bs))) w) :
  bodyPost Tryz.prog fn R .ret a w:=by
 refine bodyPost_ret (v:=.agg (zak s bs)) ?_ hd hR
 have hp':a.tmps[p]?.getD undef = .pointer (some ⟨g,0,none⟩):=by simpa using hp
 simp [results,hf,hp',asAddr,zeI h hl]
theorem zb9:zaG.length=16:=rfl
theorem zcf (s:Int):zak s zaG=#[.int .i64 s,.int .u8 0,.int .u8 0,.int .u8 0,.int .u8 0,.int .u8 0,.int .u8 0,.int .u8 0,.int .u8 0,.int .u8 0,.int .u8 0,.int .u8 0,.int .u8 0,.int .u8 0,.int .u8 0,.int .u8 0,.int .u8 0]:=by kernel_rfl
theorem zea (s t:Int) (xs ys:List UInt8) (hx:xs.length=16) (hy:ys.length=16) (w:World) :
  (binOp .eql 37 (.agg (zak s xs)) (.agg (zak t ys))).run Tryz.prog w = .ok (.bool (decide (s=t∧xs=ys))) w:=by
 rw [run_eql_struct,show (10000:Nat)=9997+3 from rfl,zcR w 9997 s t xs ys hx hy]
 rfl
theorem zfR (s t:Int) (xs ys:List UInt8) (hx:xs.length=16) (hy:ys.length=16) (w:World) :
  (binOp .neq 37 (.agg (zak s xs)) (.agg (zak t ys))).run Tryz.prog w = .ok (.bool (!decide (s=t∧xs=ys))) w:=by
 rw [run_neq_struct,show (10000:Nat)=9997+3 from rfl,zcR w 9997 s t xs ys hx hy]
 rfl
open Go.RowKit
section
variable {ops:Array Oper} {rest:List Oper} {o:Oper} {a:Act} {w:World} {Q:Exit→Act→World→Prop}
theorem zbZ (hw:Region.wanted o (yielded ops a.tmps)=true) (x y:Operand) (ho:o.op = .binOp .eql 37 x y 37)
  {s t:Int} {xs ys:List UInt8} (hx:a.eval x = .agg (zak s xs)) (hy:a.eval y = .agg (zak t ys)) (lx:xs.length=16) (ly:ys.length=16)
  (hk:wpList Tryz.prog ops Q rest (a.put o.dst (.bool (decide (s=t∧xs=ys)))) w):wpList Tryz.prog ops Q (o::rest) a w:=by
 unfold wpList
 rw [if_pos hw]
 refine .inl ?_
 have hg:Tryz.prog.eqGuardType Tryz.prog.depth 37=false:=by kernel_rfl
 have hg':=run_eqGuard_agg (P:=Tryz.prog) w .eql 37 x y (zak s xs) (zak t ys) hg
 unfold Oper.wp execOp
 simp only [ho,hx,hy,Sem.run_bind,hg',Result.andThen_ok,zea s t xs ys lx ly]
 exact hk
end
open Go.RowKit
theorem zaT (w:World) (s:Int) :
  Calls Tryz.prog 93 #[.int .i64 s] w fun e w'=>e = .returned (.bool (zb0 s))∧w=w':=by
 have h:zb0 s=decide (s=0∨s=4∨s=16):=rfl
 by_cases h0:s=0
 ·subst h0
  have h':zb0 0=true:=rfl
  rw [h']
  clear h h'
  go_enter Tryz.func93,Tryz.ntmps93
  go_wp2
  go_ret
  exact ⟨rfl,rfl⟩
 ·by_cases h4:s=4
  ·subst h4
   have h':zb0 4=true:=rfl
   rw [h']
   clear h h' h0
   go_enter Tryz.func93,Tryz.ntmps93
   go_wp2
   go_ret
   exact ⟨rfl,rfl⟩
  ·by_cases h6:s=16
   ·subst h6
    have h':zb0 16=true:=rfl
    rw [h']
    clear h h' h0 h4
    go_enter Tryz.func93,Tryz.ntmps93
    go_wp2
    go_ret
    exact ⟨rfl,rfl⟩
   ·have h':zb0 s=false:=by rw [h];simp [h0,h4,h6]
    rw [h']
    clear h h'
    have e0:(s==0)=false:=by simpa using h0
    have e4:(s==4)=false:=by simpa using h4
    have e6:(s==16)=false:=by simpa using h6
    clear h0 h4 h6
    go_enter Tryz.func93,Tryz.ntmps93
    go_wp2
    go_ret
    exact ⟨rfl,rfl⟩
set_option maxHeartbeats 800000 in
theorem zde (w:World) (s:Int) (bs:List UInt8) (hl:bs.length=16) :
  Calls Tryz.prog 59 #[.agg (zak s bs)] w fun e w'=>e = .returned (.bool (zaL s bs))∧Below w.heap.size w w':=by
 have c0:=zef s bs
 have HL:=hide hl
 have HA:Hid (At (w.alloc (.cells (zak s bs) 37)) w.heap.size (w.heap.size+1) (some ⟨w.heap.size,1,none⟩) 16 bs):=At.addr (Blk.new w _ _) hl
 clear hl
 by_cases hs:zb0 s=true
 ·have:s=0∨s=4∨s=16:=of_decide_eq_true hs
  have HS:=hide hs
  clear hs
  rcases this with rfl | rfl | rfl
  case' inl =>
   have HAT:Hid (At (w.alloc (.cells (zak 0 bs) 37)) w.heap.size (w.heap.size+1) (some ⟨w.heap.size,1,none⟩) 16 (bs.drop 0)):=HA
   have HR:Hid (zaL 0 bs=(bs.drop 0).all (· == 0)):=by unfold zaL;rw [HS.out];rfl
  case' inr.inl =>
   have HAT:Hid (At (w.alloc (.cells (zak 4 bs) 37)) w.heap.size (w.heap.size+1) (some ⟨w.heap.size,5,none⟩) 12 (bs.drop 4)):=HA.out.tail (k:=4) (c:=16) (by omega) (by omega)
   have HR:Hid (zaL 4 bs=(bs.drop 4).all (· == 0)):=by unfold zaL;rw [HS.out];rfl
  case inr.inr =>
   have hr:zaL 16 bs=true:=by
    unfold zaL
    rw [HS.out,List.drop_of_length_le (by rw [HL.out];decide)]
    rfl
   rw [hr]
   clear hr
   go_enter Tryz.func59,Tryz.ntmps59
   go_wp2_with (go_at_call 93;refine (zaT _ _).mono ?_;rintro e w1 ⟨rfl,rfl⟩;rw [HS.out])
   refine wp_loop_rounds 1 ?_
   rw [rounds_succ]
   go_wp2
   go_ret
   exact ⟨rfl,(Below.refl _ _).alloc (Nat.le_refl _) _⟩
  all_goals
   generalize bs.drop _=zs at HAT HR
   have HLEN:=hide HAT.out.len
   go_enter Tryz.func59,Tryz.ntmps59
   go_wp2_with (go_at_call 93;refine (zaT _ _).mono ?_;rintro e w1 ⟨rfl,rfl⟩;rw [HS.out])
   go_loop [14] (fun i=>∃ k:Nat,k≤zs.length∧i = .int .i64 k∧(zs.take k).all (· == 0)=true) (fun i=>zs.length-(intOf i).toNat)
   case atStart=>exact ⟨0,Nat.zero_le _,rfl,rfl⟩
   case round =>
    obtain ⟨k,hk,rfl,hall⟩:=hrel
    have HALL:=hide hall
    clear hall
    by_cases hlt:k<zs.length
    ·have hlt':=hlt
     rw [HLEN.out] at hlt'
     obtain ⟨b,o,u,hA,hu,hc⟩:=HAT.out.at_ hlt'
     simp only [Option.some.injEq,Addr.mk.injEq,and_true] at hA
     obtain ⟨rfl,rfl⟩:=hA
     have HU:=hide hu
     clear hu hlt
     by_cases hb:u=0
     ·subst hb
      go_wp2
      go_round
      case rel=>exact ⟨k+1,by rw [HLEN.out];omega,by go_num,by rw [zee HU.out,HALL.out];rfl⟩
      case measure=>rw [HLEN.out];simp [intOf];omega
     ·have hb':((u.toNat:Int) != 0)=true:=by
       have:u.toNat≠0:=fun e=>hb (UInt8.toNat_inj.1 e)
       simp;omega
      have HB:=hide hb
      clear hb
      go_wp2
      go_ret
      exact ⟨by rw [HR.out,zhC HU.out (by simpa using HB.out)];rfl,(Below.refl _ _).alloc (Nat.le_refl _) _⟩
    ·obtain rfl:k=zs.length:=by omega
     rw [List.take_length] at HALL
     have hz:=HLEN.out
     rw [hz]
     have HZ:=hide hz
     clear hz hlt hk
     go_wp2
     go_ret
     exact ⟨by rw [HR.out,HALL.out];rfl,(Below.refl _ _).alloc (Nat.le_refl _) _⟩
 ·have hs':zb0 s=false:=by simpa using hs
  have hr:zaL s bs=false:=by unfold zaL;rw [hs'];rfl
  rw [hr]
  have HS:=hide hs'
  clear hs hs' hr
  go_enter Tryz.func59,Tryz.ntmps59
  go_wp2_with (go_at_call 93;refine (zaT _ _).mono ?_;rintro e w1 ⟨rfl,rfl⟩;rw [HS.out])
  go_ret
  exact ⟨rfl,(Below.refl _ _).alloc (Nat.le_refl _) _⟩
theorem zhm (w:World) (s:Int) (bs:List UInt8) (hl:bs.length=16) :
  Calls Tryz.prog 72 #[.agg (zak s bs)] w fun e w'=>∃ v,e = .returned v∧w'.ownsRow w.heap.size 5 1 v (zaY s bs).length (bvs (zaY s bs))∧Below w.heap.size w w':=by
 have c0:=zef s bs
 have HB:=hide (Blk.new w 37 (zak s bs))
 have HA:Hid (At (w.alloc (.cells (zak s bs) 37)) w.heap.size (w.heap.size+1) (some ⟨w.heap.size,1,none⟩) 16 bs):=At.addr HB.out hl
 have HL:=hide hl
 clear hl
 by_cases hr:zaL s bs=true
 ·have hb:zaY s bs=bs.take s.toNat:=by unfold zaY;rw [if_pos hr]
  have:s=0∨s=4∨s=16:=by
   unfold zaL at hr
   simp only [Bool.and_eq_true] at hr
   exact of_decide_eq_true hr.1
  have HR:=hide hr
  rw [hb]
  clear hr hb
  rcases this with rfl | rfl | rfl
  all_goals
   go_enter Tryz.func72,Tryz.ntmps72
   go_wp2_with (first
    | (with_reducible refine zbh rfl (.tmp 1) rfl w.heap.size rfl HB.out HL.out ?_)
    | (go_at_call 59;refine (zde _ _ bs HL.out).mono ?_;rintro e w1 ⟨rfl,hb1⟩;rw [HR.out];have HB1:=hide (HB.out.below hb1 (by simp));have k0:=(HB1.out.cell 0).trans (zef _ bs);have HW1:=hide hb1;have HAT:=hide (At.addr HB1.out HL.out);have hz1:=hb1.size;clear hb1)
    | (go_at_call 34;go_must (refine (zdo _ w.heap.size (w.heap.size+1) _ _ _ _ (HAT.out.head (by decide)) (by simpa using hz1) (by decide)).mono ?_);rintro e w2 ⟨v,rfl,hown,hbel⟩))
   go_ret
   have hz2:w.heap.size≤w1.heap.size:=by simp at hz1;omega
   have hlen:∀ k,k≤16→(bs.take k).length=k:=fun k hk=>by rw [List.length_take,HL.out];omega
   exact ⟨_,rfl,by rw [hlen _ (by decide)];exact zaC hown hz2,((Below.refl _ _).alloc (Nat.le_refl _) _ |>.trans (HW1.out.mono (by simp))).trans (hbel.mono hz2)⟩
 ·have hr':zaL s bs=false:=by simpa using hr
  have hb:zaY s bs=[]:=by unfold zaY;rw [if_neg hr]
  have HR:=hide hr'
  rw [hb]
  clear hr hb hr'
  go_enter Tryz.func72,Tryz.ntmps72
  go_wp2_with (first
   | (with_reducible refine zbh rfl (.tmp 1) rfl w.heap.size rfl HB.out HL.out ?_)
   | (go_at_call 59;refine (zde _ _ bs HL.out).mono ?_;rintro e w1 ⟨rfl,hb1⟩;rw [HR.out]))
  go_ret
  exact ⟨_,rfl,World.ownsRow_nil _ _ _ _,(Below.refl _ _).alloc (Nat.le_refl _) _ |>.trans (hb1.mono (by simp))⟩
open Go.RowKit
theorem of_no (w:World) (A:Option Addr) (n c:Nat) (hs:zb0 n=false) :
  Calls Tryz.prog 75 #[.slice A n c] w fun e w'=>e = .returned (.tuple #[.agg (zak 0 zaG),.int .i64 1])∧Below w.heap.size w w':=by
 have HS:=hide hs
 clear hs
 go_enter Tryz.func75,Tryz.ntmps75
 go_wp2_with (first
  | (go_at_call 93;refine (zaT _ _).mono ?_;rintro e w1 ⟨rfl,rfl⟩;rw [HS.out])
  | (refine zaZ rfl (.tmp 2) (.tmp 9) rfl w.heap.size rfl (s:=0) (bs:=zaG) (congrArg Value.agg (zcf 0)).symm zb9 (Blk.new w _ _) rfl ?_;intro w2 hb2 hg2))
 refine zev (p:=2) (q:=3) (v:=.int .i64 1) rfl rfl rfl hb2 zb9 rfl ?_
 exact ⟨rfl,((Below.refl _ _).alloc (Nat.le_refl _) _).grown hg2 (by simp) (by simp)⟩
theorem zec (w:World) (o:Obj) (t:TypeId) (cs:Array Value):Blk ((w.alloc o).alloc (.cells cs t)) (w.heap.size+1) t cs:=heap_alloc2_new w o _
theorem zgH {n:Nat} (h:zb0 n=true):n=0∨n=4∨n=16:=by
 have:(n:Int)=0∨(n:Int)=4∨(n:Int)=16:=of_decide_eq_true h
 omega
theorem zgR {xs:List UInt8} (h:xs.length≤16):(pad xs).length=16:=by unfold pad;simp;omega
theorem zcZ {w:World} {ops:Array Oper} {rest:List Oper} {o:Oper} {a:Act} {Q:Exit→Act→World→Prop} (hgd:o.guard=none) (d s:Operand)
  (ho:o.op = .call { callee:=.builtin .copy,args:=#[d,s],argTypes:=#[22,22] })
  (g n c lo hi:Nat) (A:Option Addr) (bs:List UInt8) (z:Int) (hg:Blk w g 37 (zak z zaG)) (hr:At w lo hi A n bs) (hn:n≤16)
  (hd:a.eval d = .slice (some ⟨g,1,none⟩) 16 16) (hs:a.eval s = .slice A n c)
  (h:∀ w',Blk w' g 37 (zak z (pad bs))→w.grownBy w' (some g)→wpList Tryz.prog ops Q rest (a.put o.dst (goInt n)) w'):wpList Tryz.prog ops Q (o::rest) a w:=by
 have hl:=hr.len
 have hsz:(Tryz.prog.info? 5).map (·.size)=some 1:=by kernel_rfl
 rcases Nat.eq_zero_or_pos n with h0 | h0
 ·subst h0
  have:bs=[]:=List.eq_nil_of_length_eq_zero hl
  subst this
  refine wpList_copy_nothing hgd d s 22 22 ho 5 Tryz.underlying22 hsz _ _ _ _ _ _ hd hs (by simp) ?_
  exact h w hg (zaf w _)
 ·obtain ⟨ad,rfl,hc⟩:=hr.cells h0
  have hb:=zav bs
  refine wpList_copy_own hgd d s 22 22 ho 5 Tryz.underlying22 hsz g 1 16 16 ad n c hd hs (zak z zaG) 37 hg (bvs bs) (by rw [hb,hl];exact (Nat.min_eq_left hn).symm) hc
   (by rw [za7 z zb9,hb,hl];omega) (zbP _) ?_
  rw [hb,hl]
  have e:((zak z zaG).toList.take 1++(bvs bs++(zak z zaG).toList.drop (1+n))).toArray=zak z (pad bs):=by
   unfold zak pad
   refine congrArg List.toArray ?_
   simp only [List.take_succ_cons,List.take_zero,List.cons_append,List.nil_append]
   rw [zcQ,Nat.add_comm,List.drop_succ_cons,hl]
   refine congrArg (fun l=>_::(_++l)) ?_
   unfold bvs zaG
   rw [← List.map_drop,List.drop_replicate]
  rw [e]
  exact h _ (hg.setRow _) (zaE _ _ _)
set_option maxHeartbeats 1000000 in
set_option maxRecDepth 20000 in
theorem of_yes (w:World) (lo hi:Nat) (A:Option Addr) (n c:Nat) (xs:List UInt8) (h:At w lo hi A n xs) (hh:hi≤w.heap.size) (hs:zb0 n=true) :
  Calls Tryz.prog 75 #[.slice A n c] w fun e w'=>e = .returned (.tuple #[.agg (zak n (pad xs)),.int .i64 0])∧Below w.heap.size w w':=by
 have hn16:n≤16:=by rcases zgH hs with h | h | h <;> omega
 have HS:=hide hs
 have H:=hide h
 have HPL:=hide (zgR (xs:=xs) (by rw [h.len];exact hn16))
 clear hs h
 go_enter Tryz.func75,Tryz.ntmps75
 go_wp2_with (first
  | (go_at_call 93;refine (zaT _ _).mono ?_;rintro e w1 ⟨rfl,rfl⟩;rw [HS.out])
  | (refine zaZ rfl (.tmp 4) (.tmp 12) rfl (w.heap.size+1) rfl (s:=n) (bs:=zaG) (congrArg Value.agg (zcf n)).symm zb9 (zec w _ _ _) rfl ?_;intro w2 hb2 hg2;have HB2:=hide hb2;have HG2:=hide hg2;clear hb2 hg2;have HA2:=hide ((H.out.alloc hh _).alloc (by simp;omega) _ |>.grown HG2.out (by simp;omega) (by intro g hg;injection hg;omega));have HZ2:=hide ((Blk.new w _ _).alloc _ |>.grown HG2.out (by simp)))
  | (with_reducible refine zcZ rfl (.tmp 14) (.tmp 15) rfl (w.heap.size+1) n c lo hi A xs n HB2.out HA2.out hn16 rfl rfl ?_;intro w3 hb3 hg3;have HB3:=hide hb3;have HG3:=hide hg3;clear hb3 hg3;have HZ3:=hide (HZ2.out.grown HG3.out (by simp)))
  | (with_reducible refine zbh rfl (.tmp 4) rfl (w.heap.size+1) rfl HB3.out HPL.out ?_)
  | (refine zaZ rfl (.tmp 2) (.tmp 17) rfl w.heap.size rfl (s:=n) (bs:=pad xs) rfl HPL.out HZ3.out rfl ?_;intro w4 hb4 hg4;have HB4:=hide hb4;have HG4:=hide hg4;clear hb4 hg4))
 refine zev (p:=2) (q:=3) (v:=.int .i64 0) rfl rfl rfl HB4.out HPL.out rfl ?_
 refine ⟨rfl,?_⟩
 have k0:=((Below.refl w.heap.size w).alloc (Nat.le_refl _) (.cells zAdr 37))
 have k1:=k0.alloc (by simp) (.cells zAdr 37)
 have k2:=k1.grown HG2.out (by simp;omega) (by simp)
 have k3:=k2.grown HG3.out k2.size (by simp)
 exact k3.grown HG4.out k3.size (by simp)
theorem of_any (w:World) (lo hi:Nat) (A:Option Addr) (n c:Nat) (xs:List UInt8) (h:At w lo hi A n xs) (hh:hi≤w.heap.size) :
  Calls Tryz.prog 75 #[.slice A n c] w fun e w'=>e = .returned (.tuple #[.agg (zak (ofS xs) (ofB xs)),.int .i64 (ofE xs)])∧Below w.heap.size w w':=by
 unfold ofS ofB ofE
 rw [h.len]
 by_cases hs:zb0 n=true
 ·rw [if_pos hs,if_pos hs,if_pos hs]
  exact of_yes w lo hi A n c xs h hh hs
 ·rw [if_neg hs,if_neg hs,if_neg hs]
  exact of_no w A n c (by simpa using hs)
open Go.RowKit
end
section
open Go.RowKit Go.ChangeShapes Go.WideShapes Go.ChangeAt
theorem zhG {n:Int} (h:(Lit.int .u8 n).wf=true):0≤n∧n<256:=by
 have:0≤n∧n≤255:=by simpa [Lit.wf,IntKind.min,IntKind.max,IntKind.signed,IntKind.bits] using h
 omega
theorem zfl {H:Type} {enc:TypeId × Value→H} {P:Program} {w:World} {ts:List TypeId} {ds:List (DataW H)} {j:Nat} {t e:TypeId} {A:Option Addr} {n c:Nat} {d:DataW H} {p:List MemPlace}
  (ht:P.underlying t=some (.slice e)) (he:P.underlying e=some (.int .u8)) (hc:P.cellsOf e=1) (hb:P.bytesOf e=1)
  (h:DataW.Trod enc P w 0 (fun _=>true) true t (.slice A n c) d p)
  (hsz:(DataW.weightsEach P ts ds).all (· ≤ reachBytes)=true) (hj:ts[j]?=some t) (hd:ds[j]?=some d) :
  ∃ bs,At w 0 w.heap.size A n bs∧n≤c∧c≤140737488351232:=by
 obtain ⟨fuel,hf⟩:=h
 rcases open_ints ht he hc hf with ⟨hcs,_⟩ | ⟨x,l,c',zs,hcs,_,hl,hm,hz,hx,hcell,hwz⟩
 ·simp [Value.cells] at hcs
  obtain ⟨rfl,rfl,rfl⟩:=hcs
  exact ⟨[],At.nil _ _ _ _,by omega,by omega⟩
 ·simp [Value.cells] at hcs
  obtain ⟨rfl,rfl,rfl⟩:=hcs
  injection hx with hx _
  subst hx
  have hs:=sized_slice hsz hj hd ht
  rw [hb] at hs
  simp only [if_true] at hz
  simp [lits,reachBytes] at hs
  refine ⟨(zs.take n).map fun z=>UInt8.ofNat z.toNat,⟨by simp;omega,fun hn=>?_⟩,hl,by omega⟩
  obtain ⟨b,o,spot⟩:=x
  have hc0:=hcell 0 (by omega)
  have hspot:spot=none:=by simpa [Addr.add] using World.cell?_spot hc0
  subst hspot
  refine ⟨b,o,rfl,Nat.zero_le _,block_lt_of_cell hc0,fun k u hu=>?_⟩
  rw [List.getElem?_map,List.getElem?_take] at hu
  split at hu
  ·rename_i hk
   have hk':k<zs.length:=by omega
   have hcell':=hcell k hk'
   rw [zbI] at hcell'
   rw [hcell']
   rw [List.getElem?_eq_getElem hk'] at hu
   simp at hu
   subst hu
   have hw:=zhG (hwz _ (List.getElem_mem hk'))
   simp [bv,List.getD,List.getElem?_eq_getElem hk']
   omega
  ·cases hu
theorem zga {H:Type} {enc:TypeId × Value→H} {P:Program} {w:World} {ts:List TypeId} {ds:List (DataW H)} {j:Nat} {t e:TypeId} {v:Value} {d:DataW H} {p:List MemPlace} {base:Nat}
  (ht:P.underlying t=some (.slice e)) (he:P.underlying e=some (.int .u8)) (hc:P.cellsOf e=1) (hb:P.bytesOf e=1)
  (hv:Value.okWide P w .any base t v) (h:DataW.Trod enc P w 0 (fun _=>true) true t v d p)
  (hsz:(DataW.weightsEach P ts ds).all (· ≤ reachBytes)=true) (hj:ts[j]?=some t) (hd:ds[j]?=some d) :
  ∃ A n c bs,v = .slice A n c∧At w 0 w.heap.size A n bs∧n≤c∧c≤140737488351232:=by
 obtain ⟨A,n,c,rfl⟩:=okWide_slice ht hv
 obtain ⟨bs,h1,h2,h3⟩:=zfl ht he hc hb h hsz hj hd
 exact ⟨A,n,c,bs,rfl,h1,h2,h3⟩
end
section
open Go.RowKit
section
variable {P:Program} {ops:Array Oper} {Q:Exit→Act→World→Prop} {md:Region.Mode} {S:World→Prop} {fuel:Nat} {listed:Array Bool} {a:Act} {w:World} {i:Nat} {o:Oper}
theorem zaB {w':World} (hi:ops.toList[i]?=some o) (hr:Region.ready md ops listed=[i]) (hw:Region.wanted o (yielded ops a.tmps)=true)
  (hrun:(execOp a.eval o).run P w = .ok .skip w') (hS:S w') (h:S w'→wpAnyH P md ops Q S fuel (listed.setIfInBounds i true) (a.put o.dst undef) w'):wpAnyH P md ops Q S (fuel+1) listed a w:=by
 refine wpAnyH_ready hr (by simp) (AllReadyH.cons (zbl hi) (fun K hK=>?_) AllReadyH.nil)
 rw [if_pos hw]
 unfold Oper.wp
 rw [hrun]
 exact hK.out _ _ hS h
end
theorem zfD {o:Oper} {a:Act} {w w':World} {v u r:Value} (x y:Operand) (t1 t2 ty:TypeId) (ho:o.op = .call { callee:=.builtin .append,args:=#[x,y],argTypes:=#[t1,t2] }) (ht:o.type=ty)
  (hx:a.eval x=v) (hy:a.eval y=u) (h:(Builtin.append_ #[t1,t2] ty #[v,u]).run Tryz.prog w = .ok r w'):(execOp a.eval o).run Tryz.prog w = .ok (.value r) w':=by
 subst ht
 unfold execOp
 simp only [ho,resolve,invoke,builtin,Sem.run_bind,Sem.run_pure,Result.andThen_ok,List.map_toArray,List.map_cons,List.map_nil,hx,hy,h]
theorem zhi {o:Oper} {a:Act} {w:World} {src dst:TypeId} {x:Operand} {v r:Value} (ho:o.op = .convert src dst x) (hx:a.eval x=v) (h:(convert src dst v).run Tryz.prog w = .ok r w):(execOp a.eval o).run Tryz.prog w = .ok (.value r) w:=by
 unfold execOp
 simp only [ho,hx,Sem.run_bind,h,Result.andThen_ok,Sem.run_pure]
theorem zbu {x y:World} {B n:Nat} {e:TypeId} {v:Value} {l:List Value} (h:x.ownsRow B e 1 v n l) (hb:Below x.heap.size x y):y.ownsRow B e 1 v n l:=by
 refine ⟨h.1,?_⟩
 rcases h.2 with h | ⟨g,cap,cur,h1,h2,h3,h4⟩
 ·exact .inl h
 ·have hlt:g<x.heap.size:=Blk.lt (t:=e) (cs:=cur) h3
  exact .inr ⟨g,cap,cur,h1,h2,(hb.block g hlt).trans h3,h4⟩
theorem ziR {x y:World} {B n:Nat} {e:TypeId} {v:Value} {l:List Value} {row:Option Nat} (h:x.ownsRow B e 1 v n l) (hg:x.grownBy y row) (hne:v.ownBlock=none∨v.ownBlock≠row):y.ownsRow B e 1 v n l:=by
 refine ⟨h.1,?_⟩
 rcases h.2 with h | ⟨g,cap,cur,h1,h2,h3,h4⟩
 ·exact .inl h
 ·have hlt:g<x.heap.size:=Blk.lt (t:=e) (cs:=cur) h3
  refine .inr ⟨g,cap,cur,h1,h2,(hg.block g hlt ?_).trans h3,h4⟩
  subst h1
  rcases hne with hne | hne
  ·cases hne
  ·exact hne
theorem zbi {x y:World} {B n g:Nat} {e:TypeId} {v:Value} {l:List Value} (h:x.ownsRow B e 1 v n l) (hg:x.grownBy y (some g)) (hlt:g<B):y.ownsRow B e 1 v n l:=by
 refine ziR h hg ?_
 cases hv:v.ownBlock with
 | none=>exact .inl rfl
 | some b =>
  refine .inr (fun e=>?_)
  injection e with e
  have:=(h.lt b hv).1
  omega
open Go.RowKit
structure zar (F:Nat→Prop) (w w':World):Prop where
 os:w'.os=w.os
 tape:w'.tape=w.tape
 output:w'.output=w.output
 size:w.heap.size≤w'.heap.size
 block:∀ k,k<w.heap.size→¬ F k→w'.heap[k]?=w.heap[k]?
section
variable {F G:Nat→Prop} {w w' w'':World}
theorem zar.refl (F:Nat→Prop) (w:World):zar F w w:=⟨rfl,rfl,rfl,Nat.le_refl _,fun _ _ _=>rfl⟩
theorem zar.trans (h:zar F w w') (k:zar G w' w'') (hG:∀ i,G i→F i∨w.heap.size≤i):zar F w w'' :=
 ⟨k.os.trans h.os,k.tape.trans h.tape,k.output.trans h.output,Nat.le_trans h.size k.size,fun i hi hF=>(k.block i (Nat.lt_of_lt_of_le hi h.size) (fun hg=>by
  rcases hG i hg with h1 | h1
  ·exact hF h1
  ·omega)).trans (h.block i hi hF)⟩
theorem zar.of_grown {row:Option Nat} (h:w.grownBy w' row):zar (fun i=>some i=row) w w':=⟨h.os,h.tape,h.output,h.size,fun i hi hne=>h.block i hi hne⟩
theorem zar.grown {row:Option Nat} (h:zar F w w') (k:w'.grownBy w'' row) (hr:∀ g,row=some g→F g∨w.heap.size≤g):zar F w w'' :=
 h.trans (zar.of_grown k) (fun i hi=>hr i hi.symm)
theorem zar.below (h:zar F w w') (k:Below w'.heap.size w' w''):zar F w w'':=h.grown (zcn k none) (fun g hg=>by cases hg)
theorem zar.drewN (h:zar F w w') (q:Nat):zar F w (w'.drewN q):=⟨h.os,h.tape,h.output,h.size,h.block⟩
theorem zar.drew (h:zar F w w'):zar F w w'.drew:=h.drewN 1
theorem zar.alloc (h:zar F w w') (o:Obj):zar F w (w'.alloc o):=h.grown (World.grownBy_alloc w' o none) (fun g hg=>by cases hg)
theorem zar.setCell (h:zar F w w') {p:Addr} (hp:F p.block∨w.heap.size≤p.block) (u:Value):zar F w (w'.setCell p u) :=
 h.grown (zap (g:=p.block) (zaf w' _) (.inl rfl) u) (fun g hg=>by injection hg with hg;subst hg;exact hp)
theorem zar.cell (h:zar F w w') {p:Addr} (hp:p.block<w.heap.size) (hF:¬ F p.block):w'.cell? p=w.cell? p:=World.cell?_of_block (h.block p.block hp hF)
theorem zar.blk (h:zar F w w') {g:Nat} {t:TypeId} {cs:Array Value} (hb:Blk w g t cs) (hF:¬ F g):Blk w' g t cs:=(h.block g hb.lt hF).trans hb
theorem zar.to_below {B:Nat} (h:zar F w w') (hB:B≤w.heap.size) (hF:∀ i,F i→B≤i):Below B w w' :=
 ⟨h.os,h.tape,h.output,h.size,fun i hi=>h.block i (Nat.lt_of_lt_of_le hi hB) (fun hf=>by have:=hF i hf;omega)⟩
end
end
section
open Go.RowKit
theorem zg7 {α:Type} {L p q r:List α} {n:Nat} (h:L=p++(q++r)) (hp:p.length=n) {j:Nat} {u:α} (hu:q[j]?=some u):L[n+j]?=some u:=by
 have hj:j<q.length:=(List.getElem?_eq_some_iff.1 hu).1
 rw [h,List.getElem?_append_right (by omega),show n+j-p.length=j by omega,List.getElem?_append_left hj]
 exact hu
theorem zg6 {α:Type} {L p q r:List α} {n k:Nat} (h:L=p++(q++r)) (hp:p.length=n) (hq:q.length=k):(L.drop n).take k=q:=by
 rw [h,List.drop_append_of_le_length (by omega),List.drop_of_length_le (by omega),List.nil_append,List.take_append_of_le_length (by omega),List.take_of_length_le (by omega)]
theorem zcr (s:Int) {bs:List UInt8} (hl:bs.length=16):(Tryz.prog.info? 37).map (·.size)=some (Value.int .i64 s::bvs bs).length:=by
 rw [show (Value.int .i64 s::bvs bs).length=17 by simp [bvs,hl]]
 kernel_rfl
section
variable {ops:Array Oper} {rest:List Oper} {o:Oper} {a:Act} {w:World} {Q:Exit→Act→World→Prop}
theorem zaH {s:Int} {bs:List UInt8} (hw:Region.wanted o (yielded ops a.tmps)=true) (x:Operand) (ho:o.op = .load 37 x)
  (g n:Nat) (hx:a.eval x = .pointer (some ⟨g,n,none⟩)) (h:w.rangeAt g n (.int .i64 s::bvs bs)) (hl:bs.length=16)
  (hk:wpList Tryz.prog ops Q rest (a.put o.dst (.agg (zak s bs))) w):wpList Tryz.prog ops Q (o::rest) a w:=by
 unfold wpList
 rw [if_pos hw]
 exact .inl (wp_load_mid 37 x ho g n hx (Value.int .i64 s::bvs bs) _ h Tryz.underlying37 rfl (zcr s hl) hk)
theorem zat {s:Int} {bs:List UInt8} (x:Operand) (ho:o.op = .load 37 x)
  (g n:Nat) (hx:a.eval x = .pointer (some ⟨g,n,none⟩)) (h:w.rangeAt g n (.int .i64 s::bvs bs)) (hl:bs.length=16) :
  (execOp a.eval o).run Tryz.prog w = .ok (.value (.agg (zak s bs))) w:=by
 unfold execOp
 simp only [ho,hx,Instr.loadAt,Instr.sureAddr,Sem.run_bind,Sem.run_pure,Result.andThen_ok,run_loadVar_mid w g n 37 _ _ h Tryz.underlying37 rfl (zcr s hl)]
 rfl
end
theorem zaq {P:Program} (w:World) (d:Nat) {xs ys:Array Value} {f:Field} {r:List Field} {a b:Value} {r1 r2:Bool} (hf:f.name ≠ "_")
  (h1:(part f.type xs f.offset).run P w = .ok a w) (h2:(part f.type ys f.offset).run P w = .ok b w) (h3:(Op.equalIn d f.type a b).run P w = .ok r1 w)
  (h4:(Op.eqFields d xs ys r).run P w = .ok r2 w):(Op.eqFields d xs ys (f::r)).run P w = .ok (r1&&r2) w:=by
 simp only [Op.eqFields,if_pos hf,Sem.run_bind,h1,h2,h3,Result.andThen_ok]
 cases r1
 ·simp
 ·simpa using h4
theorem zb7 {P:Program} (w:World) (d:Nat) {xs ys:Array Value}:(Op.eqFields d xs ys []).run P w = .ok true w:=by
 simp [Op.eqFields]
theorem zbA (s:Int) (bs:List UInt8):(Value.int .i64 s::bvs bs).toArray=zak s bs:=by unfold zak;rfl
theorem zeW (a b:List UInt8):((⟨a.toArray⟩:ByteArray).toList==(⟨b.toArray⟩:ByteArray).toList)=decide (a=b):=by
 rw [ByteArray.toList_mk,ByteArray.toList_mk]
 by_cases h:a=b <;> simp [h]
theorem zaa {ops:Array Oper} {rest:List Oper} {o:Oper} {a:Act} {w:World} {Q:Exit→Act→World→Prop} (hw:Region.wanted o (yielded ops a.tmps)=true) {v:Value} (h:(execOp a.eval o).run Tryz.prog w = .ok (.value v) w)
  (hk:wpList Tryz.prog ops Q rest (a.put o.dst v) w):wpList Tryz.prog ops Q (o::rest) a w:=by
 unfold wpList
 rw [if_pos hw]
 refine .inl ?_
 unfold Oper.wp
 rw [h]
 exact hk
theorem zcW {o:Oper} {a:Act} {w:World} (x y:Operand) (ho:o.op = .binOp .eql 9 x y 9) {s r:List UInt8} (hx:a.eval x = .string ⟨s.toArray⟩) (hy:a.eval y = .string ⟨r.toArray⟩) :
  (execOp a.eval o).run Tryz.prog w = .ok (.value (.bool (decide (s=r)))) w:=by
 have hb:=zeW s r
 have hg:(eqGuard .eql 9 x y (.string ⟨s.toArray⟩) (.string ⟨r.toArray⟩)).run Tryz.prog w = .ok () w:=by simp [eqGuard]
 unfold execOp
 simp only [ho,hx,hy,Sem.run_bind,hg,Result.andThen_ok,binOp_string_eql,Sem.run_pure,hb]
theorem zcJ {ops:Array Oper} {rest:List Oper} {o:Oper} {a:Act} {w:World} {Q:Exit→Act→World→Prop} (hw:Region.wanted o (yielded ops a.tmps)=true) (x:Operand) (ho:o.op = .convert 22 9 x)
  {lo hi:Nat} {A:Option Addr} {n c:Nat} {bs:List UInt8} (hx:a.eval x = .slice A n c) (hA:At w lo hi A n bs) (hk:wpList Tryz.prog ops Q rest (a.put o.dst (.string ⟨bs.toArray⟩)) w):wpList Tryz.prog ops Q (o::rest) a w :=
 zaa hw (zhi ho hx (At.text hA 22 5 Tryz.underlying22 Tryz.underlying5 _ 9 Tryz.underlying9)) hk
theorem zci {ops:Array Oper} {rest:List Oper} {o:Oper} {a:Act} {w:World} {Q:Exit→Act→World→Prop} (hw:Region.wanted o (yielded ops a.tmps)=true) (x y:Operand) (ho:o.op = .binOp .eql 9 x y 9) (s r:List UInt8) (hx:a.eval x = .string ⟨s.toArray⟩) (hy:a.eval y = .string ⟨r.toArray⟩)
  (b:Bool) (hb:decide (s=r)=b) (hk:wpList Tryz.prog ops Q rest (a.put o.dst (.bool b)) w):wpList Tryz.prog ops Q (o::rest) a w:=by
 subst hb
 exact zaa hw (zcW x y ho hx hy) hk
theorem zbm {g:Nat} {t:TypeId} {r:List Value}:∀ (vs q p:List Value) (w:World),q.length=vs.length→Blk w g t (p++(q++r)).toArray→Blk (w.setCells g p.length vs) g t (p++(vs++r)).toArray
 | [],q,p,w,hl,h=>by
  have:q=[]:=List.eq_nil_of_length_eq_zero hl
  subst this
  exact h
 | v::vs,[],p,w,hl,h=>by simp at hl
 | v::vs,u::q,p,w,hl,h=>by
  have h2:=h.set_ p.length v
  have e:(p++(u::q++r)).toArray.setIfInBounds p.length v=((p++[v])++(q++r)).toArray:=by
   rw [List.setIfInBounds_toArray,List.set_append_right _ _ (Nat.le_refl _),Nat.sub_self]
   simp
  rw [e] at h2
  have h3:=zbm (r:=r) vs q (p++[v]) (w.setCell ⟨g,p.length,none⟩ v) (by simpa using hl) h2
  rw [List.length_append,List.length_singleton] at h3
  have e2:(p++[v]++(vs++r))=p++(v::vs++r):=by simp
  rw [e2] at h3
  exact h3
theorem zag {g:Nat}:∀ (vs:List Value) (o:Nat) (a w:World),a.grownBy w (some g)→a.grownBy (w.setCells g o vs) (some g)
 | [],_,_,_,h=>h
 | v::r,o,a,w,h=>zag r (o+1) a _ (zap h (.inl rfl) v)
theorem zcG {o:Oper} {a:Act} {w:World} (x y:Operand) (ho:o.op = .store 37 x y) (g n:Nat) (hx:a.eval x = .pointer (some ⟨g,n,none⟩)) {s:Int} {bs:List UInt8} (hy:a.eval y = .agg (zak s bs)) (hl:bs.length=16)
  (ht:w.there g n 17):(execOp a.eval o).run Tryz.prog w = .ok .skip (w.setCells g n (.int .i64 s::bvs bs)):=by
 have hi:(Tryz.prog.info? 37).map (·.size)=some (zak s bs).size:=by rw [za7 s hl];kernel_rfl
 have h:=run_storeVar_mid (P:=Tryz.prog) w g n 37 (zak s bs) (by rw [za7 s hl];exact ht) hi (zeZ s bs)
 unfold execOp
 simp only [ho,hx,hy,Instr.storeAt,Instr.sureAddr,Sem.run_bind,Sem.run_pure,Result.andThen_ok,h]
 rfl
theorem zdt {P:Program} {w:World} {g i:Nat} {t ty:TypeId} {cs:Array Value} {u:Value} (h:Blk w g t cs) (hi:i<cs.size) (hty:(P.info? ty).map (·.size)=some 1) (hc:u.cells=#[u]) (h1:u.oneCell'=true) :
  (storeVar ty ⟨g,i,none⟩ u).run P w = .ok () (w.setCell ⟨g,i,none⟩ u):=by
 have:=run_storeCells_cells (P:=P) g i [u] 0 w (fun j hj=>by
  have hj0:j=0:=by simpa using hj
  subst hj0
  simp [h.cell i,hi]) (fun j hj=>by
  have hj0:j=0:=by simpa using hj
  subst hj0
  simpa using h.frozen i) (fun v hv=>by
  have hv':v=u:=by simpa using hv
  subst hv'
  exact h1)
 cases hq:P.info? ty with
 | none=>simp [hq] at hty
 | some ii =>
  have hs:ii.size=1:=by simpa [hq] using hty
  simp only [Nat.add_zero] at this
  simp [storeVar,sizeOf,typeInfo,hq,hc,hs]
  exact this
theorem zdm {P:Program} {o:Oper} {a:Act} {w:World} (ty:TypeId) (x y:Operand) (ho:o.op = .store ty x y) {g i:Nat} {t:TypeId} {cs:Array Value} {u:Value} (hx:a.eval x = .pointer (some ⟨g,i,none⟩)) (hy:a.eval y=u)
  (h:Blk w g t cs) (hi:i<cs.size) (hty:(P.info? ty).map (·.size)=some 1) (hc:u.cells=#[u]) (h1:u.oneCell'=true):(execOp a.eval o).run P w = .ok .skip (w.setCell ⟨g,i,none⟩ u):=by
 unfold execOp
 simp only [ho,hx,hy,Instr.storeAt,Instr.sureAddr,Sem.run_bind,Sem.run_pure,Result.andThen_ok,zdt h hi hty hc h1]
section
variable {P:Program} {ops:Array Oper} {Q:Exit→Act→World→Prop} {md:Region.Mode} {S S':World→Prop}
variable {fuel:Nat} {listed:Array Bool} {a:Act} {w:World} {i:Nat} {o:Oper}
end
theorem zb8 (w:World) (lo hi lo' hi' n m c d:Nat) (A B:Option Addr) (xs ys:List UInt8) (ha:At w lo hi A n xs) (hb:At w lo' hi' B m ys) :
  Calls Tryz.prog 18 #[.slice A n c,.slice B m d] w fun e w'=>e = .returned (.bool (decide (xs=ys)))∧w=w':=by
 have HA:=hide ha
 have HB:=hide hb
 clear ha hb
 go_enter Tryz.func18,Tryz.ntmps18
 go_wp2_with (first
  | (with_reducible refine zcJ rfl (.tmp 5) rfl rfl HA.out ?_)
  | (with_reducible refine zcJ rfl (.tmp 7) rfl rfl HB.out ?_)
  | (with_reducible refine zaa rfl (zcW (.tmp 6) (.tmp 8) rfl rfl rfl) ?_))
 go_ret
 exact ⟨rfl,rfl⟩
end
end Go.Proofs.YthgainmcnjldaaaGreatDoor
