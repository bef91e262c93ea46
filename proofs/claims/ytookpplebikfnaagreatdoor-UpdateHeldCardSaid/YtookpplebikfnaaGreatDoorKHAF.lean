/-
  What countSize, first and Split of package attr do, in whatever memory. No condition beyond sizes that fit memory.
-/
import Derived.Deep.LoopGhost
import Derived.Test.YtookpplebikfnaaGreatDoorKHAE
set_option linter.unusedVariables false
set_option linter.unusedSimpArgs false
namespace Go.Proofs.YtookpplebikfnaaGreatDoor
section
set_option maxRecDepth 20000
open Go.RowKit
theorem zl1 {a b c:World} {row:Option Nat} {q:Nat} (h:a.grownBy b row) (k:b.grownBy c (some q)) (hq:a.heap.size≤q):a.grownBy c row :=
 ⟨k.os.trans h.os,k.tape.trans h.tape,k.output.trans h.output,Nat.le_trans h.size k.size,fun i hi hne=>(k.block i (Nat.lt_of_lt_of_le hi h.size) (fun e=>by injection e;omega)).trans (h.block i hi hne)⟩
theorem ztX:(Tryz.prog.info? 89).map (fun i=>(i.zero.map (·.cells.size),i.size,i.bytes))=some (some 3,3,40):=by kernel_rfl
theorem zrl:∃ (i:TypeInfo) (z:Value),Tryz.prog.info? 89=some i∧i.zero=some z∧i.size=3∧i.bytes=40∧z.cells.size=3:=by
 have h:=ztX
 cases hq:Tryz.prog.info? 89 with
 | none=>rw [hq] at h;cases h
 | some i =>
  rw [hq] at h
  simp only [Option.map_some,Option.some.injEq,Prod.mk.injEq] at h
  cases hz:i.zero with
  | none=>rw [hz] at h;simp at h
  | some z =>
   rw [hz] at h
   simp at h
   exact ⟨i,z,rfl,hz,h.2.1,h.2.2,h.1⟩
theorem zs8:∃ z:Value,z.cells.size=3∧∀ w,(zeroValue 89).run Tryz.prog w = .ok z w:=⟨_,by kernel_rfl,Tryz.zeroValue89⟩
def rawC (x:RawP):Array Value:=(rawL x).toArray
theorem ze3 (x:RawP):(rawC x).size=3:=rfl
theorem ztY (x:RawP):(rawC x).all (·.oneCell')=true:=by
 rw [Array.all_eq_true_iff_forall_mem]
 intro u hu
 exact zof x u (by unfold rawC at hu;simpa using hu)
theorem zdQ {o:Oper} {a:Act} (w:World) (x:Operand) (ho:o.op = .buildSlice 59 1 #[(0,x)]) {m:RawP} (ex:a.eval x = .agg (rawC m)) :
  (execOp a.eval o).run Tryz.prog w = .ok (.value (.slice (some ⟨w.heap.size,0,none⟩) 1 1)) (w.alloc (.cells (rawC m) 89)):=by
 obtain ⟨z,hz,hz2⟩:=zs8
 have h:=zbN (P:=Tryz.prog) w 59 89 (rawC m) z Tryz.underlying59 (fun w=>Tryz.sizeOf89 w) hz2 hz (ze3 m) (by decide) (by decide)
 unfold execOp
 simp only [ho,List.map_toArray,List.map_cons,List.map_nil,ex,Sem.run_bind,h,Result.andThen_ok,Sem.run_pure]
theorem ziv (w:World) (base:Nat) (ty:TypeId) (v:Value) (n:Nat) (xs:List RawP) (hown:w.ownsRow base 89 3 v n (za4 rawL xs)) (lo hi':Nat) (A:Option Addr) (m c:Nat) (news:List RawP) (hr:AtG rawL w lo hi' A m news)
  (hb:n+m≤1000000000000) (hbase:base≤w.heap.size) :
  ∃ v' w',(Builtin.append_ #[59,59] ty #[v,.slice A m c]).run Tryz.prog w = .ok v' w'∧w'.ownsRow base 89 3 v' (n+m) (za4 rawL (xs++news))∧w.grownBy w' v.ownBlock∧(v'.ownBlock=v.ownBlock∨v'.ownBlock=some w.heap.size):=by
 obtain ⟨i,z,hi,hz,h1,h2,h3⟩:=zrl
 exact zcn (P:=Tryz.prog) w base 59 ty 89 i z 40 Tryz.underlying59 hi hz h1 h2 h3 (by decide) v n xs hown lo hi' A m c news hr (fun y hy=>zhZ y) (fun y hy=>zof y) (by omega) (by unfold maxLen;omega) hbase
section
variable {ops:Array Oper} {rest:List Oper} {o:Oper} {a:Act} {w:World} {Q:Exit→Act→World→Prop} {x:RawP} {g:Nat} {t:TypeId}
theorem zoo (h:Blk w g t (rawC x)):(loadVar 89 ⟨g,0,none⟩).run Tryz.prog w = .ok (.agg (rawC x)) w :=
 run_loadVar_row w g t 89 (rawC x) (0,0) _ h Tryz.underlying89 rfl (by rw [ze3];kernel_rfl)
theorem zkT (p:Operand) (ho:o.op = .load 89 p) (g:Nat) (hx:a.eval p = .pointer (some ⟨g,0,none⟩)) {t:TypeId} (h:Blk w g t (rawC x)) :
  (execOp a.eval o).run Tryz.prog w = .ok (.value (.agg (rawC x))) w:=by
 unfold execOp
 simp only [ho,hx,Instr.loadAt,Instr.sureAddr,Sem.run_bind,Sem.run_pure,Result.andThen_ok,zoo h]
theorem zbY (hgd:o.guard=none) (p:Operand) (ho:o.op = .load 89 p) (g:Nat) (hx:a.eval p = .pointer (some ⟨g,0,none⟩)) {t:TypeId} (h:Blk w g t (rawC x))
  (hk:wpList Tryz.prog ops Q rest (a.put o.dst (.agg (rawC x))) w):wpList Tryz.prog ops Q (o::rest) a w :=
 wpList_load_row hgd 89 p ho g hx t (rawC x) (0,0) _ h Tryz.underlying89 rfl (by rw [ze3];kernel_rfl) hk
theorem zcY (hgd:o.guard=none) (p:Operand) (ho:o.op = .load 89 p) {b i:Nat} (hx:a.eval p = .pointer (some ⟨b,i,none⟩)) (h:w.rangeAt b i (rawL x))
  (hk:wpList Tryz.prog ops Q rest (a.put o.dst (.agg (rawC x))) w):wpList Tryz.prog ops Q (o::rest) a w :=
 wpList_load_mid hgd 89 p ho b i hx (rawL x) _ h Tryz.underlying89 rfl (by rw [zhZ];kernel_rfl) hk
theorem zb8 (hgd:o.guard=none) (p y:Operand) (ho:o.op = .store 89 p y) (g:Nat) (hx:a.eval p = .pointer (some ⟨g,0,none⟩)) (x:RawP) (hy:a.eval y = .agg (rawC x)) {t:TypeId} {old:Array Value} (h:Blk w g t old) (hold:old.size=3)
  (hk:∀ w',Blk w' g t (rawC x)→w.grownBy w' (some g)→wpList Tryz.prog ops Q rest (a.put o.dst undef) w'):wpList Tryz.prog ops Q (o::rest) a w :=
 wpList_store_row hgd 89 p y ho g (rawC x) hx hy t old h (by rw [ze3];kernel_rfl) (by rw [ze3,hold]) (ztY x) (hk _ (h.setRow _) (zaK _ _ _))
end
theorem zeI (w:World) (f:Nat) (hf:f<256):Calls Tryz.prog 73 #[.int .i64 (f:Int)] w fun e w'=>e = .returned (.int .i64 ((if zb9 f=true then 2 else 1:Nat):Int))∧w=w':=by
 have h:=zwY f hf
 clear hf
 by_cases hl:zb9 f=true
 ·rw [if_pos hl] at h ⊢
  clear hl
  go_enter Tryz.func73,Tryz.ntmps73
  go_wp2
  go_ret
  exact ⟨rfl,rfl⟩
 ·rw [if_neg hl] at h ⊢
  clear hl
  go_enter Tryz.func73,Tryz.ntmps73
  go_wp2
  go_ret
  exact ⟨rfl,rfl⟩
theorem ztP {fn:Func} {R:Ending→World→Prop} {a:Act} {w:World} {p:Tmp} {g:Nat} {t:TypeId} {x:RawP} (hf:fn.results=#[.cell p 89])
  (hp:a.tmps.getD p undef = .pointer (some ⟨g,0,none⟩)) (h:Blk w g t (rawC x)) (hd:a.defers=[]) (hR:R (.returned (.agg (rawC x))) w) :
  bodyPost Tryz.prog fn R .ret a w:=by
 refine bodyPost_ret (v:=.agg (rawC x)) ?_ hd hR
 have hp':a.tmps[p]?.getD undef = .pointer (some ⟨g,0,none⟩):=by simpa using hp
 simp [results,hf,hp',asAddr,zoo h]
def okF (b:List UInt8):Bool:=decide (1≤b.length)&&(decide (1≤(b.drop 1).length)&&(cnO b&&vlO b))
def zmr (w:World) (lo g:Nat) (bs:List UInt8) (bad0:Bool) (e:Ending) (w':World):Prop :=
 ∃ x:RawP,e = .returned (.agg (rawC x))∧(x.f=(flgK bs:Nat)∧x.k=((bs.getD 1 0).toNat:Nat)∧x.v=vlV bs∧x.n=x.v.length)∧Rd w' lo g (vlR bs) (bad0||!okF bs) ∧
  w'.ownsRow w.heap.size 5 1 x.val x.n (bvs x.v)∧w.grownBy w' (some g)
set_option maxHeartbeats 1000000 in
theorem zsg (w:World) (lo g:Nat) (bs:List UInt8) (bad0:Bool) (h:Rd w lo g bs bad0) :
  Calls Tryz.prog 99 #[.pointer (some ⟨g,0,none⟩)] w (zmr w lo g bs bad0):=by
 have hgl:=h.lt
 obtain ⟨e1,e2,e3⟩:=zok bs
 obtain ⟨e4,e5,e6⟩:=zok (bs.drop 1)
 rw [zsn] at e4
 rw [List.drop_drop] at e5
 have RES:=hide (Blk.new w 89 #[.int .i64 0,.int .i64 0,.slice none 0 0])
 have R0:Hid (Rd (w.alloc (.cells #[.int .i64 0,.int .i64 0,.slice none 0 0] 89)) lo g bs bad0):=hide (h.keep (zaN (zad w none) _) (by simp))
 have G0:Hid (w.grownBy (w.alloc (.cells #[.int .i64 0,.int .i64 0,.slice none 0 0] 89)) (some g)):=hide (zaN (zad w _) _)
 have hf:=zwx bs
 have hK:bits .andNot .i64 (flgB bs:Int) 16=(flgK bs:Int):=zuT _ hf
 have hz:(if zb9 (flgB bs)=true then 2 else 1:Nat)=sizB bs:=rfl
 have hs:=zgp bs
 have HOK:Hid (((((bad0||!decide (1≤bs.length))||!decide (1≤(bs.drop 1).length))||!cnO bs)||!vlO bs)=(bad0||!okF bs)):=hide (by
  unfold okF
  cases bad0 <;> cases decide (1≤bs.length) <;> cases decide (1≤(bs.drop 1).length) <;> cases cnO bs <;> cases vlO bs <;> rfl)
 have HC:=hide (fun (x:World)=>zeI x (flgB bs) hf)
 have HV:=hide (cnV_lt bs)
 obtain ⟨FL,hFL⟩:∃ FL,flgB bs=FL:=⟨_,rfl⟩
 obtain ⟨FK,hFK⟩:∃ FK,flgK bs=FK:=⟨_,rfl⟩
 obtain ⟨KD,hKD⟩:∃ KD,(bs.getD 1 0).toNat=KD:=⟨_,rfl⟩
 obtain ⟨SZ,hSZ⟩:∃ SZ,sizB bs=SZ:=⟨_,rfl⟩
 have hkd:KD<256:=by have:=(bs.getD 1 0).toNat_lt;omega
 rw [show (bs.getD 0 0).toNat=FL from hFL] at e1
 rw [hKD] at e4
 rw [hz] at HC
 rw [hFL,hFK] at hK
 rw [hSZ] at HC hs
 rw [hFL] at HC hf
 have E1:=hide e1
 have E2:=hide e2
 have E3:=hide e3
 have E4:=hide e4
 have E5:=hide e5
 have E6:=hide e6
 have S1:=hide hFK
 have S2:=hide hKD
 have S3:=hide hSZ
 have HS:=hide hs
 clear h e1 e2 e3 e4 e5 e6 hFL hFK hKD hSZ hz hs
 unfold zmr
 rw [S1.out,S2.out]
 have hq:w.heap.size+1≤(w.alloc (.cells #[.int .i64 0,.int .i64 0,.slice none 0 0] 89)).heap.size:=by simp
 go_enter Tryz.func99,Tryz.ntmps99
 go_wp2_with fail
 generalize hw0:w.alloc (.cells #[.int .i64 0,.int .i64 0,.slice none 0 0] 89)=w0 at *
 clear hw0
 refine (zbK w0 lo g bs bad0 R0.out 1 (by decide)).mono ?_
 rw [E1.out,E2.out,E3.out]
 rintro e w1 ⟨rfl,hr1,hg1⟩
 have R1:=hide hr1
 have B1:=hide (RES.out.grown hg1 (fun e=>by injection e;omega))
 have G1:=hide (zak G0.out hg1)
 have hq1:=Nat.le_trans hq hg1.size
 clear hr1 hg1 R0 RES G0 hq
 go_wp2_with fail
 refine (zbK w1 lo g _ _ R1.out 1 (by decide)).mono ?_
 rw [E4.out,E5.out,E6.out]
 rintro e w2 ⟨rfl,hr2,hg2⟩
 have R2:=hide hr2
 have B2:=hide (B1.out.grown hg2 (fun e=>by injection e;omega))
 have G2:=hide (zak G1.out hg2)
 have hq2:=Nat.le_trans hq1 hg2.size
 clear hr2 hg2 R1 B1 G1 hq1
 go_wp2_with fail
 refine (HC.out w2).mono ?_
 rintro e w3 ⟨rfl,rfl⟩
 go_wp2_with fail
 have wk:(Lit.int .i64 ((SZ:Nat):Int)).wf=true:=WalkArith.wf_i64 (by have:=HS.out;omega)
 refine (zbK w2 lo g _ _ R2.out SZ wk).mono ?_
 rw [← S3.out]
 rintro e w4 ⟨rfl,hr4,hg4⟩
 have R4:Hid (Rd w4 lo g (cnR bs) _):=hide hr4
 have B4:=hide (B2.out.grown hg4 (fun e=>by injection e;omega))
 have G4:=hide (zak G2.out hg4)
 have hq4:=Nat.le_trans hq2 hg4.size
 clear hr4 hg4 R2 B2 G2 hq2 wk
 have hcv:zas (bs.drop (1+1)) (sizB bs:Nat)=cnV bs:=rfl
 rw [hcv]
 clear hcv
 go_wp2_with fail
 have wk:(Lit.int .i64 ((cnV bs:Nat):Int)).wf=true:=WalkArith.wf_i64 (by have:=HV.out;omega)
 refine (zaZ w4 lo g _ _ R4.out (cnV bs) wk).mono ?_
 rintro e w5 ⟨v5,rfl,ho5,hr5,hg5⟩
 obtain ⟨A5,c5,rfl,_,_⟩:=zac ho5
 have R5:=hide hr5
 have O5:=hide ho5
 have B5:=hide (B4.out.grown hg5 (fun e=>by injection e;omega))
 have G5:=hide (zak G4.out hg5)
 clear hr5 hg5 R4 B4 G4 ho5 wk
 go_wp2_with (refine zb8 rfl (.tmp 2) (.tmp 20) rfl w.heap.size rfl ⟨FK,KD,A5,(vlV bs).length,c5,vlV bs⟩ rfl B5.out rfl ?_;intro w6 hb6 hg6;have B6:=hide hb6;have G6:=hide hg6;clear hb6 hg6;refine Hid.out ?_)
 refine hide ?_
 go_wp2
 refine ztP (p:=2) rfl rfl B6.out rfl ?_
 refine ⟨_,rfl,⟨rfl,rfl,rfl,rfl⟩,?_,?_,?_⟩
 ·have:=R5.out.keep G6.out (fun k hk=>by injection hk;exact .inr (by omega))
  rw [← HOK.out]
  exact this
 ·exact zmW (zav O5.out (by omega)) G6.out (.inr (fun e=>by have:=(O5.out.lt _ e).1;omega))
 ·exact zl1 G5.out G6.out (Nat.le_refl _)
theorem zcb {ops:Array Oper} {rest:List Oper} {o:Oper} {a:Act} {w w':World} {Q:Exit→Act→World→Prop} (hw:Region.wanted o (yielded ops a.tmps)=true) {v:Value} (h:(execOp a.eval o).run Tryz.prog w = .ok (.value v) w')
  (hk:wpList Tryz.prog ops Q rest (a.put o.dst v) w'):wpList Tryz.prog ops Q (o::rest) a w:=by
 unfold wpList
 rw [if_pos hw]
 refine .inl ?_
 unfold Oper.wp
 rw [h]
 exact hk
theorem zcs {ops:Array Oper} {rest:List Oper} {o:Oper} {a:Act} {w:World} {Q:Exit→Act→World→Prop} (hw:Region.wanted o (yielded ops a.tmps)=true) (x:Operand) (ho:o.op = .buildSlice 59 1 #[(0,x)]) (m:RawP) (ex:a.eval x = .agg (rawC m))
  (hk:wpList Tryz.prog ops Q rest (a.put o.dst (.slice (some ⟨w.heap.size,0,none⟩) 1 1)) (w.alloc (.cells (rawC m) 89))):wpList Tryz.prog ops Q (o::rest) a w :=
 zcb hw (zdQ w x ho ex) hk
theorem za2 {ops:Array Oper} {rest:List Oper} {o:Oper} {a:Act} {w w':World} {Q:Exit→Act→World→Prop} (hw:Region.wanted o (yielded ops a.tmps)=true) (x y:Operand) (t1 t2 ty:TypeId) (ho:o.op = .call { callee:=.builtin .append,args:=#[x,y],argTypes:=#[t1,t2] }) (ht:o.type=ty) {v u r:Value}
  (hx:a.eval x=v) (hy:a.eval y=u) (h:(Builtin.append_ #[t1,t2] ty #[v,u]).run Tryz.prog w = .ok r w') (hk:wpList Tryz.prog ops Q rest (a.put o.dst r) w'):wpList Tryz.prog ops Q (o::rest) a w :=
 zcb hw (zbx x y t1 t2 ty ho ht hx hy h) hk
theorem zgw (w:World) (base:Nat) (ty:TypeId) (v:Value) (xs:List RawP) (h:zax w base 89 5 v xs) (x:RawP) (hx:w.ownsRow base 5 1 x.val x.n (bvs x.v)) (hf:∀ b,x.val.ownBlock=some b→¬ zfj v xs b) (lo hi':Nat) (A:Option Addr) (c:Nat) (hr:AtG rawL w lo hi' A 1 [x])
  (hb:xs.length+1≤1000000000000) (hbase:base≤w.heap.size) :
  ∃ v' w',(Builtin.append_ #[59,59] ty #[v,.slice A 1 c]).run Tryz.prog w = .ok v' w'∧zax w' base 89 5 v' (xs++[x])∧w.grownBy w' v.ownBlock∧(v'.ownBlock=v.ownBlock∨v'.ownBlock=some w.heap.size):=by
 obtain ⟨v',w',h1,h2,h3,h4⟩:=ziv w base ty v xs.length xs h.row lo hi' A 1 c [x] hr hb hbase
 refine ⟨v',w',h1,h.push hx hf h2 h3 ?_,h3,h4⟩
 rcases h4 with h4 | h4
 ·exact .inl h4
 ·exact .inr (fun b e=>by rw [h4] at e;injection e;omega)
theorem zcq {w:World} {base base':Nat} {e:TypeId} {sz:Nat} {v:Value} {n:Nat} {xs:List Value} (h:w.ownsRow base e sz v n xs) (hb:base'≤base):w.ownsRow base' e sz v n xs:=by
 refine ⟨h.1,?_⟩
 rcases h.2 with h | ⟨g,cap,cur,h1,h2,h3⟩
 ·exact .inl h
 ·exact .inr ⟨g,cap,cur,h1,by omega,h3⟩
theorem zax.more {w:World} {base base':Nat} {T U:TypeId} {v:Value} {xs:List RawP} (h:zax w base T U v xs) (hb:base'≤base):zax w base' T U v xs :=
 ⟨zcq h.row hb,fun x hx=>zcq (h.val x hx) hb,h.ap,h.vr⟩
def zep (w:World) (b:List UInt8) (e:Ending) (w':World):Prop :=
 ∃ v xs,e = .returned (.tuple #[v,.int .i64 (zcy b).2])∧zax w' w.heap.size 89 5 v xs∧xs.map RawP.raw=(zcy b).1∧Below w.heap.size w w'
theorem zep.no {w w':World} {b:List UInt8} {k:Int} (h:zcy b=([],k)) (hb:Below w.heap.size w w'):zep w b (.returned (.tuple #[.slice none 0 0,.int .i64 k])) w' :=
 ⟨.slice none 0 0,[],by rw [h],zax.nil _ _ _ _,by rw [h];rfl,hb⟩
set_option maxHeartbeats 3000000 in
theorem zqH (w:World) (lo hi:Nat) (A:Option Addr) (n c:Nat) (b:List UInt8) (h:At w lo hi A n b) (hh:hi≤w.heap.size) (hn:n≤140737488355328) :
  Calls Tryz.prog 63 #[.slice A n c] w (zep w b):=by
 have H:=hide h
 clear h
 go_enter Tryz.func63,Tryz.ntmps63
 go_wp2_with fail
 refine (zbV w lo hi A n c b H.out hh hn).mono ?_
 rintro e w1 ⟨g,rfl,hgl,hr1,hb1⟩
 have R1:=hide hr1
 have W1:=hide hb1
 have hg1:=hr1.lt
 have hz1:=hb1.size
 obtain ⟨base,hbase⟩:∃ base,w1.heap.size=base:=⟨_,rfl⟩
 rw [hbase] at hg1 hz1
 have HB:=hide hbase
 clear hr1 hb1 H hbase
 go_wp2_with fail
 go_loopg [5] b.length (fun gg v wr=>∃ (q cc p:Nat) (B:Option Addr) (xs:List RawP),v = .slice B q cc∧xs.length=q∧q≤64∧p≤b.length∧b.length-p≤gg∧zax wr base 89 5 (.slice B q cc) xs∧Rd wr w.heap.size g (b.drop p) false∧zdj b (xs.map RawP.raw) p∧Below w.heap.size w wr∧base≤wr.heap.size)
 case atStart=>exact ⟨0,0,0,none,[],rfl,rfl,by omega,Nat.zero_le _,Nat.sub_le _ _,zax.nil _ _ _ _,R1.out,zdj.start b,W1.out,by rw [HB.out];exact Nat.le_refl _⟩
 case round =>
  obtain ⟨q,cc,p,B,xs,rfl,hql,hq64,hpl,hgg,hown,hrd,hsp,hbel,hbz⟩:=hrel
  have HO:=hide hown
  have HR:=hide hrd
  have HS:=hide hsp
  have WB:=hide hbel
  have HQL:=hide hql
  obtain ⟨Ar,nr,cr,k0⟩:=hrd.open0
  have HML:Hid ((xs.map RawP.raw).length=q):=hide (by rw [List.length_map];exact hql)
  clear hown hrd hsp hbel hql k0
  have HLD:Hid ((b.drop p).length=b.length-p):=hide (by rw [List.length_drop])
  by_cases hlt:p<b.length
  ·have h0:(0:Int)<((b.length-p:Nat):Int):=by omega
   by_cases hq:q=64
   ·subst hq
    have HF:=hide (HS.out.full hlt HML.out)
    go_wp2_with (go_at_call 98;refine (Rd.left HR.out).mono ?_;rw [HLD.out];rintro x wq ⟨rfl,rfl⟩)
    go_ret2
    exact zep.no HF.out WB.out
   ·have hq9:((q:Int)==64)=false:=beq_eq_false_iff_ne.2 (by omega)
    go_wp2_with (go_at_call 98;refine (Rd.left HR.out).mono ?_;rw [HLD.out];rintro x wq ⟨rfl,rfl⟩)
    refine (zsg wr w.heap.size g (b.drop p) false HR.out).mono ?_
    rintro e w2 ⟨x,rfl,⟨hxf,hxk,hxv,hxn⟩,hr2,ho2,hg2⟩
    have XF:=hide (show x.f=(flgK (b.drop p):Nat)∧x.k=(((b.drop p).getD 1 0).toNat:Nat)∧x.v=vlV (b.drop p)∧x.n=x.v.length from ⟨hxf,hxk,hxv,hxn⟩)
    have R2:=hide hr2
    have OX2:=hide ho2
    have HO2:Hid (zax w2 base 89 5 (.slice B q cc) xs):=hide (HO.out.grown hg2 (fun k hk e=>by injection e with e;subst e;have:=(HO.out.lt _ hk).1;omega))
    have HNB:Hid (∀ k,zfj (.slice B q cc) xs k→k<wr.heap.size):=hide (fun k hk=>(HO.out.lt k hk).2)
    have WB2:=hide (WB.out.grown hg2 WB.out.size (fun k hk=>by injection hk;omega))
    have hbz2:=Nat.le_trans hbz hg2.size
    have hgs2:=hr2.lt
    clear hxf hxk hxv hxn hr2 ho2 hg2 HO WB HR
    have NEW:=hide (Blk.new w2 89 #[.int .i64 0,.int .i64 0,.slice none 0 0])
    go_wp2_with (refine zb8 rfl (.tmp 6) (.tmp 18) rfl w2.heap.size rfl x rfl NEW.out rfl ?_;intro w3 hb3 hg3;have M3:=hide hb3;have W23:Hid (Below w2.heap.size w2 w3):=hide (((Below.refl _ _).alloc (Nat.le_refl _) _).grown hg3 (by simp) (by simp));clear hb3 hg3;refine Hid.out ?_)
    refine hide ?_
    have HO3:=hide (HO2.out.over W23.out)
    have OX3:=hide (za8 OX2.out W23.out)
    have R3:=hide (R2.out.below W23.out hgs2)
    have WB3:=hide (zaa WB2.out W23.out (Nat.le_refl _))
    have hbz3:=Nat.le_trans hbz2 W23.out.size
    clear NEW HO2 OX2 R2 WB2 W23
    generalize w2.heap.size=q7 at *
    obtain ⟨Ar3,nr3,cr3,hbr3,_⟩:=R3.out
    have BR3:=hide hbr3
    clear hbr3
    cases hf:fitB (b.drop p)
    ·have HF:=hide (HS.out.bad hlt (by rw [HML.out];omega) hf)
     have hok:okF (b.drop p)=false:=fit_no hf
     rw [hok] at BR3
     clear hf hok
     go_wp2_with (go_at_call 64;refine (zk5 _ _ _ _ _ _ BR3.out).mono ?_;rintro x wq ⟨rfl,rfl⟩)
     go_ret2
     exact zep.no HF.out WB3.out
    ·have HN:=hide (HS.out.next hlt (by rw [HML.out];omega) hf)
     obtain ⟨⟨f1,f2⟩,f3,f4,f5,f6⟩:=zwy hf
     have hok:okF (b.drop p)=true:=by unfold okF;rw [decide_eq_true f1,decide_eq_true f2,f3,f4];rfl
     rw [hok] at BR3 R3
     have HXR:Hid (x.raw=rawB (b.drop p)):=hide (by
      obtain ⟨a1,a2,a3,a4⟩:=XF.out
      unfold RawP.raw
      rw [zwd,a1,a2,a3,f5])
     have hR4:Rd w3 w.heap.size g (vlR (b.drop p)) false:=R3.out
     have HLB:=hide (of_decide_eq_true hf).2
     rw [f6,List.drop_drop] at hR4
     have R4:=hide hR4
     have HL3:=hide (zuj (b.drop p))
     clear hf f1 f2 f3 f4 f5 f6 hok hR4 R3
     have HW4:Hid (Below w3.heap.size w3 (w3.alloc (.cells (rawC x) 89))):=hide ((Below.refl _ _).alloc (Nat.le_refl _) _)
     obtain ⟨v5,w5,hrun,ho5,hg5,hat5⟩:=zgw (w3.alloc (.cells (rawC x) 89)) base 59 (.slice B q cc) xs (HO3.out.over HW4.out) x (zcq (za8 OX3.out HW4.out) hbz) (fun k hk hbk=>by have h1:=HNB.out k hbk;have h2:=(OX3.out.lt k hk).1;omega) _ _ _ 1 (AtG.one (Blk.new w3 89 (rawC x))) (by rw [HQL.out];omega) (Nat.le_trans hbz3 HW4.out.size)
     have HRUN:=hide hrun
     have HO5:=hide ho5
     have WB5:=hide ((zaa WB3.out HW4.out (Nat.le_refl _)).grown hg5 (Nat.le_trans WB3.out.size HW4.out.size) (fun k hk=>Nat.le_trans hz1 (HO3.out.lt k (.inl hk)).1))
     have R5:=hide ((R4.out.below HW4.out (by omega)).keep hg5 (fun k hk=>.inr (Nat.lt_of_lt_of_le hg1 (HO3.out.lt k (.inl hk)).1)))
     have hbz5:=Nat.le_trans (Nat.le_trans hbz3 HW4.out.size) hg5.size
     clear hrun ho5 hg5 hat5 HO3 OX3 R4 WB3 HW4 HNB
     go_wp2_with (first
      | (go_at_call 64;refine (zk5 _ _ _ _ _ _ BR3.out).mono ?_;rintro x wq ⟨rfl,rfl⟩)
      | (with_reducible refine zbY rfl (.tmp 6) rfl q7 rfl M3.out ?_)
      | (with_reducible refine zcs rfl (.tmp 24) rfl x rfl ?_)
      | (at_builtin;refine za2 rfl (.tmp 23) (.tmp 25) 59 59 59 rfl rfl rfl rfl HRUN.out ?_;refine Hid.out ?_))
     refine hide ?_
     obtain ⟨B5,c5,rfl,_,_⟩:=HO5.out.shape
     have hlb:=HLB.out
     rw [HLD.out] at hlb
     have hl3:=HL3.out
     go_wp2
     go_roundg (b.length-(p+lenB (b.drop p)))
     case measure=>omega
     case rel=>exact ⟨q+1,c5,p+lenB (b.drop p),B5,xs++[x],by rw [List.length_append,HQL.out];rfl,by rw [List.length_append,HQL.out];rfl,by omega,by omega,Nat.le_refl _,by have:=HO5.out;rw [List.length_append,HQL.out] at this;exact this,R5.out,by rw [List.map_append,List.map_singleton,HXR.out];exact HN.out,WB5.out,hbz5⟩
  ·have h0:¬ (0:Int)<((b.length-p:Nat):Int):=by omega
   have HF:=hide (HS.out.done (by omega))
   go_wp2_with (go_at_call 98;refine (Rd.left HR.out).mono ?_;rw [HLD.out];rintro x wq ⟨rfl,rfl⟩)
   go_ret2
   exact ⟨.slice B q cc,xs,by rw [HF.out];rfl,HO.out.more hz1,by rw [HF.out],WB.out⟩
end
end Go.Proofs.YtookpplebikfnaaGreatDoor
