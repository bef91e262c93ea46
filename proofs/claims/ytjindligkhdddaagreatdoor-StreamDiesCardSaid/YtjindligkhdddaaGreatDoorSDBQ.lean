/-
  Feed: whatever bytes come, behind whatever waits. The conditions: so few bytes, the library's tables hold what their texts lay.
  The small case of layer 12's statements comes out right. The one condition: the library's tables hold what their texts lay.
  StreamDies, walked: it returns true, whatever bytes and whatever rows of bytes come in; what was there stays as it was. The condition: the library's tables hold what their texts lay.
-/
import Derived.WalkMore
import Derived.Test.YtjindligkhdddaaGreatDoorSDBD
import Derived.Test.YtjindligkhdddaaGreatDoorSDBP
set_option linter.unusedVariables false
set_option linter.unusedSimpArgs false
namespace Go.Proofs.YtjindligkhdddaaGreatDoor
section
open Go.RowKit
def lenV:Value→Nat
 | .slice _ n _=>n
 | _=>0
theorem zxY (b:List UInt8):(hdD b).length≤2:=by
 unfold hdD zyc
 split
 ·rw [zcl];exact Nat.le_refl _
 ·split <;> simp
def zey (w:World) (B sp:Nat) (v:Value) (T:List UInt8) (e:Ending) (w':World):Prop :=
 ∃ (vt:Value) (ts:List Hd) (d:Bool) (x:NoP) (v':Value) (R':List UInt8),e = .returned vt∧w'.ownsRow w.heap.size 58 54 vt ts.length (zaX hdL ts)∧StAt w' B sp d x v' R'∧zaB (fun i=>i=sp∨v.ownBlock=some i) w w'∧zm7 T ts d x R'∧x.dn≤2∧(ts≠[]→∀ q,vt.ownBlock=some q→v'.ownBlock≠some q)
theorem zlW (w:World) {B sp:Nat} {x:NoP} {v:Value} {R:List UInt8} (h:StAt w B sp true x v R) (r:Value):Calls Tryz.prog 6 #[.pointer (some ⟨sp,0,none⟩),r] w fun e w'=>e = .returned (.slice none 0 0)∧w=w':=by
 have c0:=h.c0
 clear h
 go_enter Tryz.func6,Tryz.ntmps6
 go_wp2
 go_step3
 go_wp2
 rw [Exit.noGoto_ret]
 go_ret
 exact ⟨rfl,rfl⟩
structure zjn (w wr:World) (B sp gu:Nat) (v:Value) (Au:Option Addr) (cu:Nat) (T:List UInt8) (vt:Value) (ts:List Hd) (S:List UInt8) (A:Option Addr) (c:Nat):Prop where
 cap:S.length≤c
 at_:At wr gu (gu+1) A S.length S
 on_:zjm T ts S
 same:ts=[]→A=Au∧S.length=T.length∧c=cu
 told:wr.ownsRow w.heap.size 58 54 vt ts.length (zaX hdL ts)
 few:ts.length+S.length≤T.length
 blk:Blk wr sp 62 (stC false (no0 0 0) v)
 row:wr.ownsRow B 5 1 (.slice Au T.length cu) T.length (bvs T)
 gu_:gu<wr.heap.size
 ne:vt.ownBlock≠some gu
 turned:zaB (fun i=>i=sp∨v.ownBlock=some i) w wr
section
variable {w wr wz:World} {B sp gu:Nat} {v:Value} {Au:Option Addr} {cu:Nat} {T:List UInt8} {vt:Value} {ts:List Hd} {S:List UInt8} {A:Option Addr} {c:Nat}
theorem zjn.over (h:zjn w wr B sp gu v Au cu T vt ts S A c) (hb:Below wr.heap.size wr wz):zjn w wz B sp gu v Au cu T vt ts S A c:=by
 have hg:=zaK hb none
 exact ⟨h.cap,h.at_.below (hb.mono h.gu_),h.on_,h.same,za8 h.told hb,h.few,h.blk.below hb h.blk.lt,za6 h.row hb,Nat.lt_of_lt_of_le h.gu_ hb.size,h.ne,h.turned.below hb⟩
end
theorem zh9 {ops:Array Oper} {Q:Exit→Act→World→Prop} {rest:List Oper} {o:Oper} {a:Act} {w:World} (hgd:o.guard=none) (p y:Operand) (ho:o.op = .store 56 p y) (g:Nat) (hx:a.eval p = .pointer (some ⟨g,0,none⟩)) {C:Array Value} (hy:a.eval y = .agg C) (hC:C.size=53) (h1:C.all (·.oneCell')=true) {t:TypeId} {old:Array Value} (h:Blk w g t old) (hold:old.size=53)
  (hk:∀ w',Blk w' g t C→w.grownBy w' (some g)→wpList Tryz.prog ops Q rest (a.put o.dst undef) w'):wpList Tryz.prog ops Q (o::rest) a w :=
 wpList_store_row hgd 56 p y ho g C hx hy t old h (by rw [hC];kernel_rfl) (by rw [hold,hC]) h1 (hk _ (h.setRow _) (zav _ _ _))
theorem zmT {o:Oper} {a:Act} {w:World} (p:Operand) (ho:o.op = .load 56 p) (g:Nat) (hx:a.eval p = .pointer (some ⟨g,0,none⟩)) {C:Array Value} {t:TypeId} (h:Blk w g t C) (hC:C.size=53) :
  (execOp a.eval o).run Tryz.prog w = .ok (.value (.agg C)) w:=by
 have hr:(loadVar 56 ⟨g,0,none⟩).run Tryz.prog w = .ok (.agg C) w:=by
  have:=run_loadVar_mid (P:=Tryz.prog) w g 0 56 C.toList _ (zah (l:=C.toList) h) Tryz.underlying56 rfl (by
   rw [Array.length_toList,hC]
   show _=some 53
   kernel_rfl)
  simpa using this
 unfold execOp
 simp only [ho,hx,Instr.loadAt,Instr.sureAddr,Sem.run_bind,Sem.run_pure,Result.andThen_ok,hr]
theorem zmS {o:Oper} {a:Act} {w:World} (p:Operand) (ho:o.op = .load 30 p) (g:Nat) (hx:a.eval p = .pointer (some ⟨g,0,none⟩)) {x:NoP} {t:TypeId} (h:Blk w g t (noC x)) :
  (execOp a.eval o).run Tryz.prog w = .ok (.value (.agg #[.int .i64 x.c,.int .i64 x.s,.slice x.dA x.dn x.dc])) w:=zcj p ho g 0 hx (zah (l:=noL x) h)
theorem zoq {ops:Array Oper} {Q:Exit→Act→World→Prop} {rest:List Oper} {o:Oper} {a:Act} {w:World} (ho:o.op = .store 56 (.tmp 12) (.tmp 57)) (h:wpList Tryz.prog ops Q (o::rest) a w):wpList Tryz.prog ops Q (o::rest) a w:=h
theorem at_mid {ops:Array Oper} {Q:Exit→Act→World→Prop} {rest:List Oper} {o:Oper} {a:Act} {w:World} (ho:o.op = .slice 22 (.tmp 53) (some (.const (.int .i64 19))) (some (.tmp 54)) none) (h:wpList Tryz.prog ops Q (o::rest) a w):wpList Tryz.prog ops Q (o::rest) a w:=h
theorem zop {ops:Array Oper} {Q:Exit→Act→World→Prop} {rest:List Oper} {o:Oper} {a:Act} {w:World} (ho:o.op = .store 30 (.tmp 9) (.tmp 59)) (h:wpList Tryz.prog ops Q (o::rest) a w):wpList Tryz.prog ops Q (o::rest) a w:=h
theorem zq4 {ops:Array Oper} {Q:Exit→Act→World→Prop} {rest:List Oper} {o:Oper} {a:Act} {w:World} (ho:o.op = .build 58 #[(0,.tmp 68),(1,.tmp 69)]) (h:wpList Tryz.prog ops Q (o::rest) a w):wpList Tryz.prog ops Q (o::rest) a w:=h
theorem ztY {ops:Array Oper} {Q:Exit→Act→World→Prop} {rest:List Oper} {o:Oper} {a:Act} {w:World} (ho:o.op = .buildSlice 27 1 #[(0,.tmp 70)]) (h:wpList Tryz.prog ops Q (o::rest) a w):wpList Tryz.prog ops Q (o::rest) a w:=h
theorem ztX {ops:Array Oper} {Q:Exit→Act→World→Prop} {rest:List Oper} {o:Oper} {a:Act} {w:World} (ho:o.op = .load 56 (.tmp 12)) (h:wpList Tryz.prog ops Q (o::rest) a w):wpList Tryz.prog ops Q (o::rest) a w:=h
theorem zyp {ops:Array Oper} {Q:Exit→Act→World→Prop} {rest:List Oper} {o:Oper} {a:Act} {w:World} (ho:o.op = .call { callee:=.builtin .append,args:=#[.tmp 67,.tmp 71],argTypes:=#[27,27] }) (h:wpList Tryz.prog ops Q (o::rest) a w):wpList Tryz.prog ops Q (o::rest) a w:=h
theorem zyq {ops:Array Oper} {Q:Exit→Act→World→Prop} {rest:List Oper} {o:Oper} {a:Act} {w:World} (ho:o.op = .slice 22 (.tmp 73) (some (.tmp 74)) none none) (h:wpList Tryz.prog ops Q (o::rest) a w):wpList Tryz.prog ops Q (o::rest) a w:=h
theorem zrK {w':World} {B sp:Nat} {x:NoP} (hb:Blk w' sp 62 (stC true x (.slice none 0 0))) (hl:B≤sp) (hn:NoAt w' (sp+1) w'.heap.size x):StAt w' B sp true x (.slice none 0 0) [] :=
 ⟨hb,World.ownsRow_nil _ _ _ _,hn,hl,by simp [Value.ownBlock]⟩
theorem zpm {w:World} {sp:Nat} {x:NoP} {v:Value} (hb:Blk w sp 62 (stC false (no0 0 0) v)) (hr:At w (sp+1) w.heap.size x.dA x.dn x.dl) (hc:x.dn≤x.dc) (W:World)
  (hW:W=((((w.setCell ⟨sp,0,none⟩ (.bool true)).setCell ⟨sp,1,none⟩ (.int .i64 x.c)).setCell ⟨sp,2,none⟩ (.int .i64 x.s)).setCell ⟨sp,3,none⟩ (.slice x.dA x.dn x.dc))) :
  Blk W sp 62 (stC true x v)∧At W (sp+1) W.heap.size x.dA x.dn x.dl∧w.grownBy W (some sp):=by
 subst hW
 have h0:=zao (zac w (some sp)) (p:=⟨sp,0,none⟩) (.inl rfl) (.bool true)
 have h1:=zao h0 (p:=⟨sp,1,none⟩) (.inl rfl) (.int .i64 x.c)
 have h2:=zao h1 (p:=⟨sp,2,none⟩) (.inl rfl) (.int .i64 x.s)
 have h3:=zao h2 (p:=⟨sp,3,none⟩) (.inl rfl) (.slice x.dA x.dn x.dc)
 refine ⟨?_,(hr.grown h3 (Nat.le_refl _) (fun g hg=>by injection hg with hg;exact .inl (by omega))).more (Nat.le_refl _) h3.size,h3⟩
 have:=(((hb.set_ 0 (.bool true)).set_ 1 (.int .i64 x.c)).set_ 2 (.int .i64 x.s)).set_ 3 (.slice x.dA x.dn x.dc)
 simpa [stC] using this
section
variable {w wr wz:World} {B sp gu:Nat} {v:Value} {Au:Option Addr} {cu:Nat} {T:List UInt8} {vt:Value} {ts:List Hd} {S:List UInt8} {A:Option Addr} {c:Nat}
theorem zjn.done (h:zjn w wr B sp gu v Au cu T vt ts S A c) (hsp:sp<w.heap.size) (hg:wr.grownBy wz (some sp)):wz.ownsRow w.heap.size 58 54 vt ts.length (zaX hdL ts)∧zaB (fun i=>i=sp∨v.ownBlock=some i) w wz :=
 ⟨zbW h.told hg (by
  by_cases e:vt.ownBlock=none
  ·exact .inl e
  ·refine .inr fun e2=>?_
   have:=(h.told.lt sp e2).1
   omega),h.turned.grown hg (fun g hg=>by injection hg with hg;exact .inl (.inl hg.symm))⟩
end
set_option maxRecDepth 20000 in
set_option maxHeartbeats 4000000 in
theorem zkG (w:World) {B sp:Nat} {v:Value} {R:List UInt8} (h:StAt w B sp false (no0 0 0) v R) (hR:R.length≤4096) (lo hi:Nat) (A:Option Addr) (n c:Nat) (b:List UInt8) (hb:At w lo hi A n b) (hh:hi≤w.heap.size) (hn:n≤8192)
  (hNK:∀ z,Below B w z→za0 z∧zcZ z):Calls Tryz.prog 6 #[.pointer (some ⟨sp,0,none⟩),.slice A n c] w (zey w B sp v (R++b)):=by
 obtain ⟨i0,hi0,hz0,hz1,hz2⟩:=info_parts zbQ
 obtain ⟨Av,cv,rfl,hcv,hcv'⟩:=h.shape
 have H:=hide h
 have HB:=hide hb
 have HBS:=hide h.base
 have c0:=h.c0
 have c4:=h.c4
 have HNK:=hide hNK
 have hlb:=hb.len
 have HLB:=hide hlb
 clear h hb hNK hlb
 go_enter Tryz.func6,Tryz.ntmps6
 go_wp2
 go_step3
 go_wp2_with (at_builtin;go_must (refine zap _ rfl (.tmp 22) (.tmp 23) 22 rfl B 5 i0 Tryz.underlying22 hi0 hz0 hz1 hz2 (.slice Av R.length cv) R.length R rfl H.out.own lo hi A n c b rfl HB.out (by omega) HBS.out ?_);intro u w1 o1 g1 a1;have O1:=hide o1;have G1:=hide g1;have A1:=hide a1;clear o1 g1 a1)
 go_step3
 go_wp2_with fail
 obtain ⟨Au,cu,rfl,hcu,hcu'⟩:=zag O1.out
 have hsp:=H.out.blk.lt
 have BK1:=hide (H.out.blk.grown G1.out (fun e=>H.out.ne e.symm))
 have hgu0:(Value.slice Au (R.length+n) cu).ownBlock≠some sp:=by
  rcases A1.out with e | e
  ·rw [e];exact H.out.ne
  ·rw [e];intro e2;injection e2 with e2;omega
 have HGU:=hide hgu0
 have T1:zaB (fun i=>i=sp∨(Value.slice Av R.length cv).ownBlock=some i) w w1:=(zaB.refl _ w).grown G1.out (fun g hg=>.inl (.inr hg))
 have HT1:=hide T1
 have hlen:(R++b).length=R.length+n:=by rw [List.length_append,HLB.out]
 have HLEN:=hide hlen
 have HFB:Hid (∀ i,(i=sp∨(Value.slice Av R.length cv).ownBlock=some i)→B≤i):=hide (fun i hi=>by
  rcases hi with rfl | hi
  ·exact H.out.lo
  ·exact (H.out.own.lt i hi).1)
 obtain ⟨T,hT⟩:∃ T,R++b=T:=⟨_,rfl⟩
 have HTe:=hide hT
 rw [hT] at O1 HLEN
 obtain ⟨K,hK⟩:∃ K,R.length+n=K:=⟨_,rfl⟩
 rw [hK] at O1 HLEN HGU hcu ⊢
 rw [hK] at A1
 have hKb:K≤12288:=by omega
 have hTK:=HLEN.out
 subst hTK
 clear hgu0 T1 hlen hT hK hR hn c0 c4 hh
 by_cases hs:T.length<19
 ·have BLK:=hide BK1.out
  refine wp_loop_rounds 1 ?_
  rw [rounds_succ]
  go_wp2_with fail
  refine (zhi BLK.out _ _ _).mono ?_
  rintro e w5 ⟨rfl,hb5,hg5⟩
  have HB5:=hide hb5
  have HG5:=hide hg5
  clear hb5 hg5
  go_wp2
  (try rw [Exit.noGoto_ret])
  go_ret
  show zey _ _ _ _ (R++b) _ _
  rw [HTe.out]
  exact ⟨_,[],false,no0 0 0,_,T,rfl,World.ownsRow_nil _ _ _ _,⟨HB5.out,zfX O1.out HG5.out (.inr HGU.out),⟨At.nil _ _ _ _,Nat.le_refl _⟩,H.out.lo,HGU.out⟩,HT1.out.grown HG5.out (fun g hg=>by injection hg with hg;exact .inl (.inl hg.symm)),zo8 (.inl ⟨rfl,rfl⟩) hs,Nat.zero_le _,fun h=>absurd rfl h⟩
 ·obtain ⟨gu,rfl,hg1,hg2,hat⟩:=zsw O1.out (by omega)
  have F0:=hide (show zjn w w1 B sp gu (.slice Av R.length cv) (some ⟨gu,0,none⟩) cu T (.slice none 0 0) [] T (some ⟨gu,0,none⟩) cu from
   ⟨hcu,hat,.inl ⟨rfl,rfl⟩,fun _=>⟨rfl,rfl,rfl⟩,World.ownsRow_nil _ _ _ _,by simp,BK1.out,O1.out,hg2,by simp [Value.ownBlock],HT1.out⟩)
  have HG1:=hide hg1
  clear hg1 hat
  go_loopw [5,6] (fun vt vr wr=>∃ (ts:List Hd) (S:List UInt8) (A:Option Addr) (c:Nat),vr = .slice A S.length c∧zjn w wr B sp gu (.slice Av R.length cv) (some ⟨gu,0,none⟩) cu T vt ts S A c) (fun _ vr _=>lenV vr)
  case atStart=>exact ⟨[],T,_,cu,rfl,F0.out⟩
  case round =>
   obtain ⟨ts,S,A2,c2,rfl,hf⟩:=hrel
   have FA:=hide hf
   have hcap:=hf.cap
   have hSK:S.length≤12288:=by have:=hf.few;omega
   obtain ⟨At5,ct5,rfl,_,_⟩:=zaQ hf.told
   have htl:ts.length≤12288:=by have:=hf.few;omega
   clear hf F0
   by_cases h19:S.length<19
   ·have FZ:=FA
    have HIS:=hide (zo8 FA.out.on_ h19)
    have BLK:=hide FZ.out.blk
    rcases Nat.eq_zero_or_pos ts.length with h0 | h0
    ·have hts:ts=[]:=List.eq_nil_of_length_eq_zero h0
     subst hts
     obtain ⟨hA,hS,hc⟩:=FZ.out.same rfl
     exfalso
     omega
    ·have hl1:(0:Int)<(ts.length:Int):=by omega
     go_wp2_with fail
     refine (zgc BLK.out FZ.out.at_ FZ.out.gu_ (by omega)).mono ?_
     rintro e w5 ⟨rfl,v5,hb5,ho5,hg5⟩
     have HB5:=hide hb5
     have HG5:=hide hg5
     have HO5:=hide ho5
     have hzs:w.heap.size≤wr.heap.size:=FZ.out.turned.size
     clear hb5 hg5 ho5
     go_wp2
     (try rw [Exit.noGoto_ret])
     go_ret
     obtain ⟨e1,e2⟩:=FZ.out.done hsp HG5.out
     show zey _ _ _ _ (R++b) _ _
     rw [HTe.out]
     refine ⟨_,ts,false,no0 0 0,v5,S,rfl,e1,⟨HB5.out,zaA HO5.out (Nat.le_trans HBS.out hzs),⟨At.nil _ _ _ _,Nat.le_refl _⟩,H.out.lo,fun e=>?_⟩,e2,HIS.out,Nat.zero_le _,fun _ q hq e=>by have h1:=(HO5.out.lt q e).1;have h2:=(FZ.out.told.lt q hq).2;omega⟩
     have:=(HO5.out.lt sp e).1
     omega
   ·have HNW:=hide (HNK.out _ (FA.out.turned.to_below HBS.out HFB.out))
    go_wp2_with fail
    refine (zvp _ gu (gu+1) A2 S.length c2 S FA.out.at_ FA.out.gu_ hcap).mono ?_
    rintro e w2 ⟨x,rfl,hxc,hxs,hxd,hown,hb2⟩
    have FA2:=hide (FA.out.over hb2)
    have HXO:=hide hown
    have HXC:=hide hxc
    have HXS:=hide hxs
    have HXD:=hide hxd
    have HB2:=hide hb2
    obtain ⟨kd,hkd⟩:∃ kd,hdK S=kd:=⟨_,rfl⟩
    obtain ⟨NN,hNN⟩:∃ NN,hdN S=NN:=⟨_,rfl⟩
    rw [hkd,hNN]
    have HKD:=hide hkd
    have HNN:=hide hNN
    clear hown hxc hxs hxd hb2 hkd hNN
    rw [show noC x=#[.int .i64 x.c,.int .i64 x.s,.slice x.dA x.dn x.dc] from rfl]
    have hb3:Below w2.heap.size w2 (w2.alloc (.cells #[.int .i64 x.c,.int .i64 x.s,.slice x.dA x.dn x.dc] 30)):=(Below.refl _ _).alloc (Nat.le_refl _) _
    have FA3:=hide (FA2.out.over hb3)
    have hwsp:sp<wr.heap.size:=Nat.lt_of_lt_of_le hsp FA.out.turned.size
    have HX3:=hide (show NoAt (w2.alloc (.cells #[.int .i64 x.c,.int .i64 x.s,.slice x.dA x.dn x.dc] 30)) (sp+1) (w2.alloc (.cells #[.int .i64 x.c,.int .i64 x.s,.slice x.dA x.dn x.dc] 30)).heap.size x from by
     have h1:=HXO.out.at_.below_ hb3
     exact ⟨h1.row.more (by omega) (Nat.le_refl _),h1.c⟩)
    have HB3:=hide hb3
    clear hb3
    by_cases hcc:0<x.c
    ·have q0:=FA3.out.blk.cell 0
     have q1:=FA3.out.blk.cell 1
     have q2:=FA3.out.blk.cell 2
     have q3:=FA3.out.blk.cell 3
     have f0:=FA3.out.blk.frozen 0
     have f1:=FA3.out.blk.frozen 1
     have f2:=FA3.out.blk.frozen 2
     have f3:=FA3.out.blk.frozen 3
     go_wp2_with fail
     obtain ⟨W4,hW4⟩:∃ W4,(((((w2.alloc (.cells #[.int .i64 x.c,.int .i64 x.s,.slice x.dA x.dn x.dc] 30)).setCell ⟨sp,0,none⟩ (.bool true)).setCell ⟨sp,1,none⟩ (.int .i64 x.c)).setCell ⟨sp,2,none⟩ (.int .i64 x.s)).setCell ⟨sp,3,none⟩ (.slice x.dA x.dn x.dc))=W4:=⟨_,rfl⟩
     have hdd:=zpm FA3.out.blk HX3.out.row HX3.out.c W4 hW4.symm
     rw [hW4]
     refine (zhj hdd.1 _ _).mono ?_
     rintro e w5 ⟨rfl,hb5,hg5⟩
     have HB5:=hide hb5
     have HG5:=hide (zak hdd.2.2 hg5)
     have HN5:=hide (hdd.2.1.grown hg5 (Nat.le_refl _) (fun g hg=>by injection hg with hg;exact .inl (by omega)))
     have HS5:=hide hg5.size
     clear hdd hb5 hg5 hW4 q0 q1 q2 q3 f0 f1 f2 f3
     go_wp2
     (try rw [Exit.noGoto_ret])
     go_ret
     obtain ⟨e1,e2⟩:=FA3.out.done hsp HG5.out
     show zey _ _ _ _ (R++b) _ _
     rw [HTe.out]
     exact ⟨_,ts,true,x,_,[],rfl,e1,zrK HB5.out H.out.lo ⟨HN5.out.more (Nat.le_refl _) HS5.out,HX3.out.c⟩,e2,on_bad FA.out.on_ (by omega) (by rw [← HXC.out];exact hcc) HXC.out HXS.out,by have h1:=HX3.out.row.len;rw [HXD.out] at h1;rw [← h1];exact zxY S,fun _ q _ e=>by simp [Value.ownBlock] at e⟩
    ·have hc0:hdC S=0:=by
      have h1:=HXC.out
      unfold hdC at h1 ⊢
      split
      ·rfl
      ·rename_i h2;rw [if_neg h2] at h1;omega
     obtain ⟨N,hN,hN2⟩:=zqK (by omega) hc0
     have hNN2:NN=N:=by rw [← HNN.out];exact hN
     subst hNN2
     have HC0:=hide hc0
     have HHN:=hide hN
     have hcx:¬ (0<x.c):=hcc
     clear hc0 hN HNN
     have hn0:(0:Int)≤(N:Int):=by omega
     by_cases hwt:S.length<19+N
     ·have FZ:=FA3
      have HIS:=hide (zxF FA.out.on_ (by omega) HC0.out HHN.out hN2 hwt)
      have hwi:(S.length:Int)<19+(N:Int):=by omega
      have BLK:=hide FZ.out.blk
      rcases Nat.eq_zero_or_pos ts.length with h0 | h0
      ·have hts:ts=[]:=List.eq_nil_of_length_eq_zero h0
       subst hts
       obtain ⟨hA,hS,hc⟩:=FZ.out.same rfl
       have hSZ:=HIS.out
       rcases FZ.out.on_ with ⟨_,hST⟩ | ⟨hne,_⟩
       ·have HST:=hide hST
        clear hST
        go_wp2_with fail
        refine (zhi BLK.out _ _ _).mono ?_
        rintro e w5 ⟨rfl,hb5,hg5⟩
        have HB5:=hide hb5
        have HG5:=hide hg5
        clear hb5 hg5
        go_wp2
        (try rw [Exit.noGoto_ret])
        go_ret
        obtain ⟨e1,e2⟩:=FZ.out.done hsp HG5.out
        show zey _ _ _ _ (R++b) _ _
        rw [HTe.out]
        refine ⟨_,[],false,no0 0 0,_,S,rfl,e1,⟨HB5.out,?_,⟨At.nil _ _ _ _,Nat.le_refl _⟩,H.out.lo,?_⟩,e2,HIS.out,Nat.zero_le _,fun h=>absurd rfl h⟩
        ·rw [HST.out]
         exact zfX FZ.out.row HG5.out (.inr HGU.out)
        ·exact HGU.out
       ·exact absurd rfl hne
      ·have hl1:(0:Int)<(ts.length:Int):=by omega
       go_wp2_with fail
       refine (zgc BLK.out FZ.out.at_ FZ.out.gu_ (by omega)).mono ?_
       rintro e w5 ⟨rfl,v5,hb5,ho5,hg5⟩
       have HB5:=hide hb5
       have HG5:=hide hg5
       have HO5:=hide ho5
       have hzs:w.heap.size≤(w2.alloc (.cells #[.int .i64 x.c,.int .i64 x.s,.slice x.dA x.dn x.dc] 30)).heap.size:=FZ.out.turned.size
       clear hb5 hg5 ho5
       go_wp2
       (try rw [Exit.noGoto_ret])
       go_ret
       obtain ⟨e1,e2⟩:=FZ.out.done hsp HG5.out
       show zey _ _ _ _ (R++b) _ _
       rw [HTe.out]
       refine ⟨_,ts,false,no0 0 0,v5,S,rfl,e1,⟨HB5.out,zaA HO5.out (Nat.le_trans HBS.out hzs),⟨At.nil _ _ _ _,Nat.le_refl _⟩,H.out.lo,fun e=>?_⟩,e2,HIS.out,Nat.zero_le _,fun _ q hq e=>by have h1:=(HO5.out.lt q e).1;have h2:=(FZ.out.told.lt q hq).2;omega⟩
       have:=(HO5.out.lt sp e).1
       omega
     ·have hwi:¬ ((S.length:Int)<19+(N:Int)):=by omega
      have HZ1:=hide (show (19:Int)+(N:Int)=((19+N:Nat):Int) by omega)
      have HK1:=hide (show 19≤19+N∧19+N≤S.length∧19+N-19≤4077 by omega)
      have M0:=hide (Blk.new w2 30 #[.int .i64 x.c,.int .i64 x.s,.slice x.dA x.dn x.dc])
      have HNW3:=hide (HNK.out _ (FA3.out.turned.to_below HBS.out HFB.out))
      have HCAP:=hide hcap
      have HP1:=hide (show (19:Int)=((19:Nat):Int) from rfl)
      go_wp2_with ((with_reducible refine at_mid rfl ?_);refine Hid.out ?_)
      refine hide ?_
      refine zps rfl (.tmp 53) (.const (.int .i64 19)) (.tmp 54) rfl (A:=A2) (n:=S.length) (c:=c2) (p:=19) (q:=19+(N:Int)) rfl rfl rfl (l:=19) (k:=19+N) HP1.out HZ1.out FA3.out.at_ HK1.out.1 HK1.out.2.1 HCAP.out ?_
      intro A4 hA4
      rw [Nat.add_sub_cancel_left] at hA4
      rw [Nat.add_sub_cancel_left]
      have HA4:=hide (zvP _ gu (gu+1) A4 N (c2-19) _ hA4 FA3.out.gu_ hN2 HNW3.out.1 HNW3.out.2 kd)
      clear hA4
      go_wp2_with fail
      refine HA4.out.mono ?_
      rintro e w4 ⟨C,o,y,rfl,b4,hCs,hCo,hy,h4,hy2⟩
      have FA4:=hide (FA3.out.over b4)
      have M4:=hide (M0.out.below b4 M0.out.lt)
      have HCS:=hide hCs
      have HCO:=hide hCo
      have HY:=hide hy
      have H4:=hide h4
      have HY2:=hide hy2
      have HZ24:=hide (show w2.heap.size<w4.heap.size from M4.out.lt)
      have HZ23:=hide (show sp<(w2.alloc (.cells #[.int .i64 x.c,.int .i64 x.s,.slice x.dA x.dn x.dc] 30)).heap.size by have:=HB2.out.size;simp;omega)
      have HB4:=hide b4
      clear b4 hCs hCo hy h4 hy2
      go_wp2_with ((with_reducible refine zoq rfl ?_);refine Hid.out ?_)
      refine hide ?_
      refine zh9 (w:=w4.alloc (.cells (zMe 0) 56)) rfl (.tmp 12) (.tmp 57) rfl w4.heap.size rfl rfl HCS.out HCO.out (Blk.new w4 56 (zMe 0)) (zgF 0).1 ?_
      intro w5 hb5 hg5
      have HBB:=hide (((Below.refl w4.heap.size w4).alloc (Nat.le_refl _) (.cells (zMe 0) 56)).grown hg5 (by simp) (fun q hq=>by injection hq with hq;omega))
      have B5:=hide hb5
      have M5:=hide (M4.out.below HBB.out M4.out.lt)
      have Y5:=hide (HY.out.below_ HBB.out)
      clear hb5 hg5
      go_wp2_with ((with_reducible refine zop rfl ?_);refine Hid.out ?_)
      refine hide ?_
      refine zaq rfl (.tmp 9) (.tmp 59) rfl w2.heap.size rfl y rfl M5.out rfl ?_
      intro w6 hb6 hg6
      have N6:=hide hb6
      have B6:=hide (B5.out.grown hg6 (fun e=>by injection e with e;have:=HZ24.out;omega))
      have hz3:w2.heap.size<(w2.alloc (.cells #[.int .i64 x.c,.int .i64 x.s,.slice x.dA x.dn x.dc] 30)).heap.size:=by simp
      have Y6:=hide (show NoAt w6 (sp+1) w6.heap.size y from ⟨(Y5.out.row.grown hg6 (Nat.le_refl _) (fun g hg=>by injection hg with hg;exact .inl (by omega))).more (by have:=HZ23.out;omega) hg6.size,Y5.out.c⟩)
      have HB6:=hide (((HB3.out.trans (HB4.out.mono (Nat.le_of_lt hz3))).trans (HBB.out.mono (Nat.le_of_lt HZ24.out))).grown hg6 (Nat.le_of_lt (Nat.lt_of_lt_of_le HZ24.out HBB.out.size)) (fun g hg=>by injection hg with hg;omega))
      have FA6:=hide (FA2.out.over HB6.out)
      clear hb6 hg6 hz3
      by_cases ho3:o=3
      ·subst ho3
       have q0:=FA6.out.blk.cell 0
       have q1:=FA6.out.blk.cell 1
       have q2:=FA6.out.blk.cell 2
       have q3:=FA6.out.blk.cell 3
       have f0:=FA6.out.blk.frozen 0
       have f1:=FA6.out.blk.frozen 1
       have f2:=FA6.out.blk.frozen 2
       have f3:=FA6.out.blk.frozen 3
       go_wp2_with (with_reducible refine zad rfl (zmS (.tmp 9) rfl w2.heap.size rfl N6.out) ?_)
       obtain ⟨W4,hW4⟩:∃ W4,((((w6.setCell ⟨sp,0,none⟩ (.bool true)).setCell ⟨sp,1,none⟩ (.int .i64 y.c)).setCell ⟨sp,2,none⟩ (.int .i64 y.s)).setCell ⟨sp,3,none⟩ (.slice y.dA y.dn y.dc))=W4:=⟨_,rfl⟩
       have hdd:=zpm FA6.out.blk Y6.out.row Y6.out.c W4 hW4.symm
       rw [hW4]
       refine (zhj hdd.1 _ _).mono ?_
       rintro e w7 ⟨rfl,hb7,hg7⟩
       have HB7:=hide hb7
       have HG7:=hide (zak hdd.2.2 hg7)
       have HN7:=hide (hdd.2.1.grown hg7 (Nat.le_refl _) (fun g hg=>by injection hg with hg;exact .inl (by omega)))
       have HS7:=hide hg7.size
       clear hdd hb7 hg7 hW4 q0 q1 q2 q3 f0 f1 f2 f3
       go_wp2
       (try rw [Exit.noGoto_ret])
       go_ret
       obtain ⟨e1,e2⟩:=FA6.out.done hsp HG7.out
       show zey _ _ _ _ (R++b) _ _
       rw [HTe.out]
       exact ⟨_,ts,true,y,_,[],rfl,e1,zrK HB7.out H.out.lo ⟨HN7.out.more (Nat.le_refl _) HS7.out,Y6.out.c⟩,e2,zu4 FA.out.on_ (by omega) HC0.out (by rw [HKD.out];intro e4;have:=(H4.out e4).2;omega),HY2.out,fun _ q _ e=>by simp [Value.ownBlock] at e⟩
      ·have ho4:(o==3)=false:=beq_eq_false_iff_ne.2 ho3
       clear ho3
       go_wp2_with ((with_reducible refine ztX rfl ?_);refine Hid.out ?_)
       refine hide ?_
       refine zad rfl (zmT (.tmp 12) rfl w4.heap.size rfl B6.out HCS.out) ?_
       go_wp2_with ((with_reducible refine zq4 rfl ?_);refine Hid.out ?_)
       refine hide ?_
       refine zad rfl (zlj _ (.tmp 68) (.tmp 69) rfl rfl rfl HCS.out) ?_
       go_wp2_with ((with_reducible refine ztY rfl ?_);refine Hid.out ?_)
       refine hide ?_
       refine zbz rfl (zld _ (.tmp 70) rfl rfl ⟨HCS.out,HCO.out⟩) ?_
       go_wp2_with ((with_reducible refine zyp rfl ?_);refine Hid.out ?_)
       refine hide ?_
       have hza:Below w6.heap.size w6 (w6.alloc (.cells (hdL (C,o)).toArray 58)):=(Below.refl _ _).alloc (Nat.le_refl _) _
       have FA7:=hide (FA6.out.over hza)
       refine zm9 rfl (.tmp 67) (.tmp 71) rfl w.heap.size (v:=.slice At5 ts.length ct5) rfl FA7.out.told (g:=w6.heap.size) (p:=(C,o)) rfl (Blk.new w6 _ _) ⟨HCS.out,HCO.out⟩ (by omega) FA7.out.turned.size ?_
       intro vt8 w8 ho8 hg8 ha8
       obtain ⟨At8,ct8,rfl,_,_⟩:=zaQ ho8
       have O8:=hide ho8
       have G8:=hide hg8
       have A8:=hide ha8
       clear ho8 hg8 ha8 hza
       go_wp2_with ((with_reducible refine zyq rfl ?_);refine Hid.out ?_)
       refine hide ?_
       have hat8:At w8 gu (gu+1) A2 S.length S:=FA7.out.at_.grown G8.out FA7.out.gu_ (fun g hg=>by
        have:=FA7.out.ne
        rw [hg] at this
        by_cases e:g<gu
        ·exact .inl e
        ·exact .inr (by have:g≠gu:=fun e2=>this (by rw [e2]);omega))
       refine zna rfl (.tmp 73) (.tmp 74) rfl (A:=A2) (n:=S.length) (c:=c2) (p:=19+(N:Int)) rfl rfl (l:=19+N) HZ1.out hat8 HK1.out.2.1 HCAP.out ?_
       intro A9 hA9
       have HA9:=hide hA9
       clear hA9 hat8
       go_wp2
       go_roundw
       case rel =>
        refine ⟨ts++[(C,o)],S.drop (19+N),A9,c2-(19+N),by rw [List.length_drop],?_⟩
        have hrow:∀ q,(Value.slice At5 ts.length ct5).ownBlock=some q→w.heap.size≤q:=fun q hq=>(FA7.out.told.lt q hq).1
        refine ⟨by rw [List.length_drop];have:=HCAP.out;omega,by rw [List.length_drop];exact HA9.out,zxG FA.out.on_ (by omega) HC0.out HHN.out (fun e4=>H4.out (by rw [← HKD.out];exact e4)),fun e=>by simp at e,by rw [List.length_append];exact O8.out,by rw [List.length_append,List.length_drop];have:=FA.out.few;simp only [List.length_singleton];omega,FA7.out.blk.grown G8.out (fun e=>by have:=hrow sp e.symm;omega),zfX FA7.out.row G8.out (.inr (fun e=>FA7.out.ne e.symm)),Nat.lt_of_lt_of_le FA7.out.gu_ G8.out.size,?_,FA7.out.turned.grown G8.out (fun g hg=>.inr (hrow g hg))⟩
        rcases A8.out with e | e
        ·exact fun e2=>FA7.out.ne (by rw [← e];exact e2)
        ·intro e2
         have e3:=e.symm.trans e2
         injection e3 with e3
         have:=FA7.out.gu_
         omega
       case measure =>
        show S.length-(19+N)<S.length
        omega
end
section
open Go.RowKit
def alB:List UInt8:=List.replicate 16 255++[0,19,4]
theorem alB_eq:zqM 4 0++[]=alB:=by decide +kernel
theorem zlz:hdC alB=0∧hdK alB=4∧hdN alB=0:=by decide +kernel
def zeB:List UInt8:=List.replicate 19 0
theorem zks:0<hdC zeB∧hdC zeB=1∧hdS zeB=1:=by decide +kernel
theorem zpR (w:World):Calls Tryz.prog 30 #[.agg (meC 4 zOpL zUpL zNoL zFaL),.agg (zMe 4)] w fun e w'=>e = .returned (.bool true)∧Below w.heap.size w w':=by
 have:=zw5 w w.heap.size w.heap.size w.heap.size w.heap.size 4 4 op0 op0 (zsD _ _ _) (zsD _ _ _) (Nat.le_refl _) (Nat.le_refl _) (Nat.zero_le _)
 rw [op0_L,show ((4:Int)==4&&zhm op0 op0)=true by decide] at this
 exact this
theorem zoi (w:World):Calls Tryz.prog 9 #[.agg (zMe 4)] w fun e w'=>∃ v,e = .returned (.tuple #[v,.int .i64 0])∧w'.ownsRow w.heap.size 5 1 v 19 (bvs alB)∧Below w.heap.size w w':=by
 have h:=zqy w 4 zOpL zUpL zNoL zFaL zcI [] (by decide) (by decide) (znv _ zOpL zUpL zNoL zFaL zcI true (fun z _=>zpR z)) (fun x _=>znX x zOpL zUpL zNoL zFaL zcI)
 rw [List.length_nil,alB_eq] at h
 exact h
theorem zs8 {w:World} {B c:Nat} {A:Option Addr} {p:Hd} (hp:HdOk p) (h:w.ownsRow B 58 54 (.slice A 1 c) 1 (zaX hdL [p])):∃ g,A=some ⟨g,0,none⟩∧B≤g∧g<w.heap.size∧w.rangeAt g 0 (hdL p):=by
 obtain ⟨g,cur,rfl,h1,h2⟩:∃ g cur,A=some ⟨g,0,none⟩∧B≤g∧w.heap[g]?=some (.cells cur 58 (0,0)):=by
  rcases h.2 with ⟨_,h0⟩ | ⟨g,cap,cur,hv,hb,hg,_⟩
  ·omega
  ·injection hv with hv
   exact ⟨g,cur,hv,hb,hg⟩
 have ha:=AtG.own (sz:=54) (fun u hu=>by rw [List.mem_singleton] at hu;subst hu;exact zn5 hp) rfl h
 obtain ⟨b,o,e,_,_,hc⟩:=ha.2 (by simp)
 injection e with e
 injection e with e1 e2
 subst e1
 subst e2
 rw [zmI] at hc
 exact ⟨g,rfl,h1,Blk.lt (t:=58) (cs:=cur) h2,hc⟩
theorem make19 (w:World):(Instr.makeSlice 22 (.int .i64 19) (.int .i64 19)).run Tryz.prog w = .ok (.slice (some ⟨w.heap.size,0,none⟩) 19 19) (w.alloc (.cells (bvs zeB).toArray 5)):=by kernel_rfl
set_option maxRecDepth 20000 in
set_option maxHeartbeats 4000000 in
theorem zw0 (w:World) (hg:za0 w∧zcZ w):Calls Tryz.prog 4 #[] w fun e w'=>e = .returned (.bool true)∧Below w.heap.size w w':=by
 have HN:=hide (fun (z:World) (h:Below w.heap.size w z)=>(⟨hg.1.below h,hg.2.below h⟩:za0 z∧zcZ z))
 clear hg
 go_enter Tryz.func4,Tryz.ntmps4
 go_wp2_with fail
 refine (zwc w).mono ?_
 rintro e w1 ⟨sp,rfl,hs1,hb1⟩
 have S1:=hide hs1
 have W1:=hide hb1
 have hsp:sp<w1.heap.size:=hs1.blk.lt
 have hsw:w.heap.size≤sp:=hs1.lo
 clear hs1 hb1
 go_wp2_with (with_reducible refine zad rfl (zfC (.const (.int .i64 4)) rfl 4 rfl) ?_)
 refine (zoi w1).mono ?_
 rintro e w2 ⟨v2,rfl,ho2,hb2⟩
 obtain ⟨A2,c2,rfl,hc2,_⟩:=zag ho2
 obtain ⟨gu,rfl,hg1,hg2,hat⟩:=zsw ho2 (by decide)
 have S2:=hide (S1.out.over hb2)
 have W2:=hide (zaa W1.out hb2 (Nat.le_refl _))
 have T2:=hide hat
 have hz2:=hb2.size
 clear ho2 hb2 hat S1 W1
 go_wp2_with fail
 have F2:Below w.heap.size w2 w2:=Below.refl _ _
 refine (zkG w2 S2.out (by decide) gu (gu+1) (some ⟨gu,0,none⟩) 18 c2 (alB.take 18) (T2.out.head (k:=18) (by decide)) hg2 (by decide) (fun z hz=>HN.out z (W2.out.trans hz))).mono ?_
 rintro e w3 ⟨v3,ts3,d3,x3,r3,R3,rfl,ho3,hs3,ht3,hf3,hx3,hd3⟩
 obtain ⟨rfl,rfl,rfl⟩:=hf3.2.2.1 (by decide)
 obtain ⟨rfl,_⟩:=hf3.1 rfl
 rw [List.length_nil] at ho3
 obtain ⟨A3,c3,rfl,_,_⟩:=zaQ ho3
 have S3:=hide hs3
 have hne:gu≠sp:=by omega
 have T3:=hide (T2.out.keep (w':=w3) (fun p h1 h2=>ht3.cell (by omega) (fun h=>h.elim (fun e=>by omega) (fun e=>by cases e))))
 have W3:=hide (W2.out.trans (ht3.to_below W2.out.size (fun i h=>h.elim (fun e=>by omega) (fun e=>by cases e))))
 have hz3:=ht3.size
 clear ho3 hs3 ht3 hf3 hx3 hd3 S2 T2 W2 F2
 have e18:(([]:List UInt8)++alB.take 18).length=18:=by decide
 go_wp2_with fail
 refine (zgQ w3 S3.out).mono ?_
 rintro e w4 ⟨rfl,rfl⟩
 rw [e18]
 have hT:(([]:List UInt8)++alB.take 18)++alB.drop 18=alB:=by decide
 go_wp2_with fail
 refine (zkG w3 S3.out (by decide) gu (gu+1) (some ⟨gu,18,none⟩) 1 (c2-18) (alB.drop 18) ?_ (by omega) (by decide) (fun z hz=>HN.out z (W3.out.trans hz))).mono ?_
 ·have h1:=T3.out.tail (k:=18) (c:=c2) (by decide) hc2
  rw [if_neg (by omega)] at h1
  exact h1
 rw [hT]
 rintro e w4 ⟨v4,ts4,d4,x4,r4,R4,rfl,ho4,hs4,ht4,hf4,hx4,hd4⟩
 obtain ⟨rfl,rfl,rfl⟩:=hf4.2.2.2.2 (by decide) zlz.1 zlz.2.1 zlz.2.2
 obtain ⟨rfl,_⟩:=hf4.1 rfl
 rw [show [((zMe 4:Array Value),(0:Int))].length=1 from rfl] at ho4
 obtain ⟨A4,c4,rfl,hc4,_⟩:=zaQ ho4
 obtain ⟨gh,rfl,hgh1,hgh2,hgh⟩:=zs8 (p:=(zMe 4,0)) ⟨(zgF 4).1,(zgF 4).2⟩ ho4
 have S4:=hide hs4
 have HD4:=hide (hd4 (by simp) gh rfl)
 have W4:=hide (W3.out.trans (ht4.to_below W3.out.size (fun i h=>h.elim (fun e=>by omega) (fun e=>(S3.out.own.lt i e).1))))
 have GH:=hide hgh
 have hz4:=ht4.size
 clear ho4 hs4 ht4 hf4 hx4 hd4 S3 T3 W3 hgh
 have hmk:=make19
 go_wp2_with fail
 have hba:Below w4.heap.size w4 (w4.alloc (.cells (bvs zeB).toArray 5)):=(Below.refl _ _).alloc (Nat.le_refl _) _
 have hz:At (w4.alloc (.cells (bvs zeB).toArray 5)) w4.heap.size (w4.heap.size+1) (some ⟨w4.heap.size,0,none⟩) 19 zeB:=At.row (l:=zeB) (Blk.new w4 5 (bvs zeB).toArray)
 have hlt:w4.heap.size<(w4.alloc (.cells (bvs zeB).toArray 5)).heap.size:=(Blk.new w4 5 (bvs zeB).toArray).lt
 obtain ⟨wa,hwa⟩:∃ wa,w4.alloc (.cells (bvs zeB).toArray 5)=wa:=⟨_,rfl⟩
 rw [hwa] at hba hz hlt ⊢
 have SA:=hide (S4.out.over hba)
 have WA:=hide (zaa W4.out hba (Nat.le_refl _))
 have GA:=hide (zqb GH.out (hba.mono (Nat.le_refl _)))
 clear hwa S4 W4 GH hmk
 refine (zkG wa SA.out (by decide) w4.heap.size (w4.heap.size+1) (some ⟨w4.heap.size,0,none⟩) 19 19 zeB hz hlt (by decide) (fun z hz=>HN.out z (WA.out.trans hz))).mono ?_
 rintro e w5 ⟨v5,ts5,d5,x5,r5,R5,rfl,ho5,hs5,ht5,hf5,hx5,hd5⟩
 rw [List.nil_append] at hf5
 obtain ⟨rfl,rfl,hx51,hx52⟩:=hf5.2.2.2.1 (by decide) zks.1
 rw [zks.2.1] at hx51
 rw [zks.2.2] at hx52
 rw [List.length_nil] at ho5
 obtain ⟨A5,c5,rfl,hc5,_⟩:=zaQ ho5
 have S5:=hide hs5
 have W5:=hide (WA.out.trans (ht5.to_below WA.out.size (fun i h=>h.elim (fun e=>by omega) (fun e=>(SA.out.own.lt i e).1))))
 have k0:wa.cell? ⟨gh,0,none⟩=some (.int .i64 4):=GA.out 0 _ rfl
 have k53:wa.cell? ⟨gh,53,none⟩=some (.int .i64 0):=by
  have:=GA.out 53 (.int .i64 0) rfl
  rwa [Nat.zero_add] at this
 have hF:¬ (gh=sp∨r4.ownBlock=some gh):=fun h=>h.elim (fun e=>by omega) HD4.out
 have hgw:gh<wa.heap.size:=by omega
 have K0:=hide ((ht5.cell (p:=⟨gh,0,none⟩) hgw hF).trans k0)
 have K53:=hide ((ht5.cell (p:=⟨gh,53,none⟩) hgw hF).trans k53)
 have hz5:=ht5.size
 have HX5:=hide hx5
 clear ho5 hs5 ht5 hf5 hd5 k0 k53 hF SA WA GA hz hba hx5
 go_wp2_with fail
 refine (ziv w5 S5.out (by have:=HX5.out;omega)).mono ?_
 rintro e w6 ⟨A6,c6,rfl,ha6,hc6,_,hb6⟩
 have W6:=hide (zaa W5.out hb6 (Nat.le_refl _))
 have hgw6:gh<w6.heap.size:=by have:=hb6.size;omega
 have l0:=(hb6.cell (p:=⟨gh,0,none⟩) (by show gh<_;omega)).trans K0.out
 have l53:=(hb6.cell (p:=⟨gh,53,none⟩) (by show gh<_;omega)).trans K53.out
 have L0:=(World.cell?_alloc_lt w6 (.cells #[.int .i64 1,.int .i64 1,.slice A6 x5.dn c6] 30) ⟨gh,0,none⟩ hgw6).trans l0
 have L53:=(World.cell?_alloc_lt w6 (.cells #[.int .i64 1,.int .i64 1,.slice A6 x5.dn c6] 30) ⟨gh,53,none⟩ hgw6).trans l53
 have W7:=hide (W6.out.alloc W6.out.size (.cells #[.int .i64 1,.int .i64 1,.slice A6 x5.dn c6] 30))
 clear hb6 S5 W5 K0 K53 ha6 l0 l53
 go_wp2_with fail
 go_ret
 exact ⟨rfl,W7.out⟩
end
section
open Go.RowKit
def natV:Value→Nat
 | .int _ i=>i.toNat
 | _=>0
set_option maxRecDepth 20000 in
set_option maxHeartbeats 8000000 in
theorem ztr (w:World) (hg:za0 w∧zcZ w) (A:Option Addr) (n c:Nat) (b:List UInt8) (hAt:At w 0 w.heap.size A n b) (hn:n≤c) (hc:c≤140737488351232) (B:Option Addr) (m d:Nat) (hL:Lists w w.heap.size B m) (hm:m≤d) (hd:d≤maxLen) :
  Calls Tryz.prog 3 #[.slice A n c,.slice B m d] w fun e w'=>e = .returned (.bool true)∧Below w.heap.size w w':=by
 have HN:=hide (fun (z:World) (h:Below w.heap.size w z)=>(⟨hg.1.below h,hg.2.below h⟩:za0 z∧zcZ z))
 have HG:=hide hg
 have H0:=hide hAt
 have HL:=hide hL
 clear hg hAt hL hn hc
 go_enter Tryz.func3,Tryz.ntmps3
 go_wp2_with fail
 refine (zw0 w HG.out).mono ?_
 rintro e w1 ⟨rfl,hb1⟩
 have W1:=hide hb1
 clear hb1
 go_wp2_with fail
 refine (zwc w1).mono ?_
 rintro e w2 ⟨sp,rfl,hs2,hb2⟩
 have S2:=hide hs2
 have W2:=hide (zaa W1.out hb2 (Nat.le_refl _))
 have hsw:w.heap.size≤sp:=Nat.le_trans W1.out.size hs2.lo
 have hw1:=W1.out.size
 clear hs2 hb2 W1
 by_cases h8:8192<(n:Int)
 ·go_wp2_with fail
  go_ret
  exact ⟨rfl,W2.out⟩
 go_wp2_with fail
 refine (zkG w2 S2.out (by decide) 0 w.heap.size A n c b (H0.out.below W2.out) W2.out.size (by omega) (fun z hz=>HN.out z (W2.out.trans (hz.mono hw1)))).mono ?_
 rw [List.nil_append]
 rintro e w3 ⟨v3,ts3,d3,x3,r3,R3,rfl,_,hs3,ht3,hf3,hx3,_⟩
 have S3:=hide hs3
 have HX3:=hide hx3
 have HF3:=hide hf3
 have W3:=hide (W2.out.trans (ht3.to_below W2.out.size (fun i h=>h.elim (fun e=>by omega) (fun e=>by cases e))))
 clear hs3 ht3 hf3 hx3 S2 W2
 go_wp2_with fail
 refine (ziv w3 S3.out (by have:=HX3.out;omega)).mono ?_
 rintro e w4 ⟨A4,c4,rfl,ha4,hc4,_,hb4⟩
 have W4:=hide (zaa W3.out hb4 (Nat.le_refl _))
 have S4:=hide (S3.out.over hb4)
 have HA4:=hide ha4
 clear ha4 hb4 S3 W3
 cases d3
 ·obtain ⟨rfl,hR⟩:=HF3.out.1 rfl
  have hR2:(R3.length:Int)<4096:=by omega
  clear HF3
  go_wp2_with fail
  refine (zgQ _ (S4.out.over ((Below.refl _ _).alloc (Nat.le_refl _) _))).mono ?_
  rintro e w5 ⟨rfl,rfl⟩
  go_wp2_with fail
  go_ret
  exact ⟨rfl,W4.out.alloc W4.out.size _⟩
 obtain rfl:=HF3.out.2.1 rfl
 clear HF3
 go_wp2_with fail
 have hb5:Below w4.heap.size w4 (w4.alloc (.cells #[.int .i64 x3.c,.int .i64 x3.s,.slice A4 x3.dn c4] 30)):=(Below.refl _ _).alloc (Nat.le_refl _) _
 have B5:=hide (Blk.new w4 30 #[.int .i64 x3.c,.int .i64 x3.s,.slice A4 x3.dn c4])
 have hg5:w4.heap.size<(w4.alloc (.cells #[.int .i64 x3.c,.int .i64 x3.s,.slice A4 x3.dn c4] 30)).heap.size:=B5.out.lt
 obtain ⟨w5,hw5⟩:∃ w5,w4.alloc (.cells #[.int .i64 x3.c,.int .i64 x3.s,.slice A4 x3.dn c4] 30)=w5:=⟨_,rfl⟩
 rw [hw5] at hb5 B5 hg5 ⊢
 have S5:=hide (S4.out.over hb5)
 have W5:=hide (zaa W4.out hb5 (Nat.le_refl _))
 have HA5:=hide (HA4.out.below hb5)
 clear hb5 hw5 S4 W4 HA4
 go_loopw [9] (fun vi wr=>∃ k:Nat,vi = .int .i64 (k:Int)∧Below w5.heap.size w5 wr) (fun vi _=>m-natV vi)
 case atStart=>exact ⟨0,rfl,Below.refl _ _⟩
 case round =>
  obtain ⟨k,rfl,hb⟩:=hrel
  have HB:=hide hb
  have hzr:=hb.size
  clear hb
  by_cases hk:k<m
  ·by_cases hk2:k<20
   ·obtain ⟨gb,ob,rfl,hgb,hel⟩:=HL.out (by omega)
    obtain ⟨ex,em,ec,hcell⟩:=hel k hk
    have hcr:wr.cell? ⟨gb,ob+k,none⟩=some (.slice ex em ec):=by
     rw [HB.out.cell (p:=⟨gb,ob+k,none⟩) (by show gb<_;have:=W5.out.size;omega),W5.out.cell (p:=⟨gb,ob+k,none⟩) (by exact hgb)]
     exact hcell
    clear hel hcell
    have hk':(k:Int)<(m:Int):=by omega
    have hk2':(k:Int)<20:=by omega
    by_cases he8:8192<(em:Int)
    ·go_wp2_with fail
     (try rw [Exit.noGoto_ret])
     go_ret
     exact ⟨rfl,W5.out.trans (HB.out.mono W5.out.size)⟩
    go_wp2_with fail
    have SR:=hide (S5.out.over HB.out)
    refine (zlW wr SR.out _).mono ?_
    rintro e z ⟨rfl,rfl⟩
    go_wp2_with fail
    refine (ziv wr SR.out (by have:=HX3.out;omega)).mono ?_
    rintro e w6 ⟨A6,c6,rfl,ha6,hc6,_,hb6⟩
    have hb7:Below w6.heap.size w6 (w6.alloc (.cells #[.int .i64 x3.c,.int .i64 x3.s,.slice A6 x3.dn c6] 30)):=(Below.refl _ _).alloc (Nat.le_refl _) _
    have HB6:=hide (zaa HB.out hb6 (Nat.le_refl _))
    have HB7:=hide (zaa HB6.out hb7 (Nat.le_refl _))
    have S7:=hide (S5.out.over HB7.out)
    have BK:=B5.out.below HB7.out B5.out.lt
    have q0:=BK.cell 0
    have q1:=BK.cell 1
    have q2:=BK.cell 2
    have T1:=hide (ha6.below hb7)
    have T2:=hide (HA5.out.below (HB7.out.mono (Nat.le_of_lt hg5)))
    have W7:=hide (W5.out.trans (HB7.out.mono W5.out.size))
    clear hb6 hb7 ha6 BK SR hcr
    go_wp2_with (first
     | ((with_reducible refine zh4 ?_ (.tmp 110) rfl rfl T1.out ?_);· rfl)
     | ((with_reducible refine zh4 ?_ (.tmp 113) rfl rfl T2.out ?_);· rfl)
     | ((with_reducible refine zjo ?_ (.tmp 111) (.tmp 114) rfl x3.dl x3.dl rfl rfl false (by simp) ?_);· rfl))
    refine (zgQ _ S7.out).mono ?_
    rintro e w8 ⟨rfl,rfl⟩
    rw [List.length_nil]
    go_wp2_with fail
    go_roundw
    case rel=>exact ⟨k+1,by push_cast;rfl,HB7.out⟩
    case measure =>
     show m-((k:Int)+1).toNat<m-(k:Int).toNat
     omega
   ·have hk2':¬ (k:Int)<20:=by omega
    have hk':(k:Int)<(m:Int):=by omega
    go_wp2_with fail
    (try rw [Exit.noGoto_ret])
    go_ret
    exact ⟨rfl,W5.out.trans (HB.out.mono W5.out.size)⟩
  ·have hk':¬ (k:Int)<(m:Int):=by omega
   go_wp2_with fail
   (try rw [Exit.noGoto_ret])
   go_ret
   exact ⟨rfl,W5.out.trans (HB.out.mono W5.out.size)⟩
end
end Go.Proofs.YtjindligkhdddaaGreatDoor
