/-
  What withBits, writersOf and its closures of package mroute do, in whatever memory. No condition.
-/
import Derived.Test.YtplpglfjcieloaaGreatDoorKSAM
set_option linter.unusedVariables false
set_option linter.unusedSimpArgs false
namespace Go.Proofs.YtplpglfjcieloaaGreatDoor
open Tryz
section
set_option maxRecDepth 20000
open Go.RowKit
theorem zxZ (w:World) (x:UInt8) (V:Int) (hV:V=(x.toNat:Int)) :
  (w.alloc (.cells #[.int .u8 V] 5)).ownsRow w.heap.size 5 1 (.slice (some ⟨w.heap.size,0,none⟩) 1 1) 1 (bvs [x]):=by
 subst hV
 exact zce (Blk.new w _ _) lr lr (by decide) rfl rfl
theorem zxY (w:World) (x y:UInt8) (V U:Int) (hV:V=(x.toNat:Int)) (hU:U=(y.toNat:Int)) :
  (w.alloc (.cells #[.int .u8 V,.int .u8 U] 5)).ownsRow w.heap.size 5 1 (.slice (some ⟨w.heap.size,0,none⟩) 2 2) 2 (bvs [x,y]):=by
 subst hV hU
 exact zce (Blk.new w _ _) lr lr (by decide) rfl rfl
set_option maxHeartbeats 1000000 in
theorem zhw (w:World) (s:Int) (bs:List UInt8) (hl:bs.length=16) :
  Calls prog 216 #[.agg (zaq s bs)] w fun e w'=>∃ v,e = .returned v∧w'.ownsRow w.heap.size 5 1 v (zh0 s bs).length (bvs (zh0 s bs))∧Below w.heap.size w w':=by
 have HB:=hD (Blk.new w 26 (zaq s bs))
 have HL:=hD hl
 have hn:=zc1 s hl
 have W0:=hD ((Below.refl w.heap.size w).alloc lr (.cells (zaq s bs) 26))
 obtain ⟨i0,hi0,hz0,hz1,hz2⟩:=info_parts zbK
 have HV:Hid ((8*((zav s bs).length:Int))=((UInt8.ofNat (8*(zav s bs).length)).toNat:Int)):=hD (by rw [zbm (by omega)];omega)
 have HP:Hid (zh0 s bs=[UInt8.ofNat (8*(zav s bs).length)]++zav s bs):=hD rfl
 have HPL:Hid ((zh0 s bs).length=1+(zav s bs).length):=hD (by unfold zh0;simp;omega)
 clear hl
 go_enter func216,ntmps216
 go_wp2_with (with_reducible refine zaK rfl (.tmp 1) rfl w.heap.size rfl HB.o HL.o ?_)
 refine (zc0 _ s bs HL.o).mono ?_
 rintro e w1 ⟨v,rfl,ho,hb⟩
 obtain ⟨A,c,rfl,_,_⟩:=zag ho
 have HA:=hD (At.own ho)
 have W1:=hD (zaa W0.o hb lr)
 have hsz:w.heap.size≤w1.heap.size:=W1.o.size
 clear ho hb
 go_wp2_with (at_builtin;refine zam _ rfl _ _ 22 rfl w1.heap.size 5 i0 underlying22 hi0 hz0 hz1 hz2 (.slice (some ⟨w1.heap.size,0,none⟩) 1 1) 1 [UInt8.ofNat (8*(zav s bs).length)] rfl (zxZ w1 _ _ HV.o) _ w1.heap.size A _ c _ rfl (HA.o.alloc lr _) (by omega) (by simp) ?_;intro v2 w2 ho2 hg2 ha2;have HO2:=hD ho2;have HG2:=hD hg2;clear ho2 hg2)
 go_ret
 refine ⟨_,rfl,?_,?_⟩
 ·rw [HPL.o,HP.o]
  exact zaC HO2.o hsz
 ·exact zns W1.o lr _ HG2.o lr
def zfs (w:World) (g:Nat) (m:Mr):Prop:=Blk w g 186 (mroC m)∧m.W
theorem zfs.over {w x:World} {g:Nat} {m:Mr} (h:zfs w g m) {B:Nat} (hb:Below B w x) (hB:g<B):zfs x g m:=⟨h.1.below hb hB,h.2⟩
theorem At.rdM {w:World} {g:Nat} {m:Mr} (h:zfs w g m):At w 0 (g+1) (some ⟨g,1,none⟩) 8 m.rd:=by
 have hr:=mro_rd h.2 h.1
 refine ⟨h.2.rd,fun _=>⟨g,1,rfl,Nat.zero_le _,by omega,fun j u hu=>?_⟩⟩
 exact hr j (bv u) (by unfold bvs;rw [List.getElem?_map,hu];rfl)
def WrOk (w:World) (m:Mr) (j:Nat) (e:Ending) (w':World):Prop :=
 ∃ A n c,e = .returned (.slice A n c)∧n≤c∧At w' 0 w'.heap.size A n (wrP m j)∧Below w.heap.size w w'
theorem zw4 (w:World) (g:Nat) (m:Mr) (h:zfs w g m):Calls prog 213 #[.pointer (some ⟨g,0,none⟩)] w (WrOk w m 0):=by
 have HA:=hD (At.rdM h)
 have hl:g+1≤w.heap.size:=h.1.lt
 clear h
 go_enter func213,ntmps213
 go_wp2
 go_ret
 exact ⟨_,_,_,rfl,lr,HA.o.more lr hl,Below.refl _ _⟩
theorem zw3 (w:World) (g:Nat) (m:Mr) (h:zfs w g m):Calls prog 214 #[.pointer (some ⟨g,0,none⟩)] w (WrOk w m 1):=by
 have c9:=(h.1.cell 9).trans (zwK h.2)
 clear h
 go_enter func214,ntmps214
 go_wp2_with fail
 refine (zhg w 0 0 none 0 0 [] (At.nil _ _ _ _) (Nat.zero_le _) (by omega) m.a 4).mono ?_
 rintro e w1 ⟨v,rfl,ho,hb⟩
 obtain ⟨A,c,rfl,hc,_⟩:=zag ho
 have HO:=hD ho
 have HB:=hD hb
 clear ho hb
 go_wp2
 go_ret
 exact ⟨_,_,_,rfl,hc,by rw [← (At.own HO.o).len];exact (At.own HO.o).more (Nat.zero_le _) lr,HB.o⟩
theorem zw2 (w:World) (g:Nat) (m:Mr) (h:zfs w g m):Calls prog 215 #[.pointer (some ⟨g,0,none⟩)] w (WrOk w m 2):=by
 have HS:=hD (zyb h.2 h.1)
 have HL:=hD h.2.sb
 clear h
 go_enter func215,ntmps215
 go_wp2_with (with_reducible refine zaM rfl (.tmp 2) rfl g 10 rfl HS.o HL.o ?_)
 refine (zhw w m.ss m.sb HL.o).mono ?_
 rintro e w1 ⟨v,rfl,ho,hb⟩
 obtain ⟨A,c,rfl,hc,_⟩:=zag ho
 have HO:=hD ho
 have HB:=hD hb
 clear ho hb
 go_wp2
 go_ret
 exact ⟨_,_,_,rfl,hc,(At.own HO.o).more (Nat.zero_le _) lr,HB.o⟩
theorem zw1 (w:World) (g:Nat) (m:Mr) (h:zfs w g m):Calls prog 217 #[.pointer (some ⟨g,0,none⟩)] w (WrOk w m 3):=by
 have HS:=hD (zyc h.2 h.1)
 have HL:=hD h.2.gb
 clear h
 go_enter func217,ntmps217
 go_wp2_with (with_reducible refine zaM rfl (.tmp 2) rfl g 27 rfl HS.o HL.o ?_)
 refine (zhw w m.gs m.gb HL.o).mono ?_
 rintro e w1 ⟨v,rfl,ho,hb⟩
 obtain ⟨A,c,rfl,hc,_⟩:=zag ho
 have HO:=hD ho
 have HB:=hD hb
 clear ho hb
 go_wp2
 go_ret
 exact ⟨_,_,_,rfl,hc,(At.own HO.o).more (Nat.zero_le _) lr,HB.o⟩
theorem zwZ (w:World) (g:Nat) (m:Mr) (h:zfs w g m):Calls prog 219 #[.pointer (some ⟨g,0,none⟩)] w (WrOk w m 5):=by
 have HS:=hD (mro_f h.2 h.1)
 have HL:=hD h.2.fb
 clear h
 go_enter func219,ntmps219
 go_wp2_with (with_reducible refine zaM rfl (.tmp 2) rfl g 44 rfl HS.o HL.o ?_)
 refine (zc0 w m.fs m.fb HL.o).mono ?_
 rintro e w1 ⟨v,rfl,ho,hb⟩
 obtain ⟨A,c,rfl,hc,_⟩:=zag ho
 have HO:=hD ho
 have HB:=hD hb
 clear ho hb
 go_wp2
 go_ret
 exact ⟨_,_,_,rfl,hc,(At.own HO.o).more (Nat.zero_le _) lr,HB.o⟩
theorem zk7 (w:World) (s:List UInt8):∃ c w',(convert 9 22 (.string ⟨s.toArray⟩)).run prog w = .ok (.slice (some ⟨w.heap.size,0,none⟩) s.length c) w'∧s.length≤c ∧
  At w' w.heap.size w'.heap.size (some ⟨w.heap.size,0,none⟩) s.length s∧Below w.heap.size w w'∧w'.heap.size=w.heap.size+1:=by
 have hr:=run_bytes_of_string (P:=prog) w 9 22 5 ⟨s.toArray⟩ underlying9 underlying22 underlying5
 have hz:ByteArray.size ⟨s.toArray⟩=s.length:=by simp [ByteArray.size]
 rw [hz] at hr
 refine ⟨_,_,hr,grownCap_ge _ _ _ _,?_,((zaj (Below.refl w.heap.size w))).alloc (by simp) _,by simp⟩
 refine ⟨rfl,fun _=>⟨_,0,rfl,lr,by simp,fun j u hu=>?_⟩⟩
 have hh:(w.drew.alloc (.cells (bytesRow ⟨s.toArray⟩ (grownCap w s.length 0 5)) 5 ((bytesRow ⟨s.toArray⟩ (grownCap w s.length 0 5)).size,(bytesRow ⟨s.toArray⟩ (grownCap w s.length 0 5)).size+1))).heap[w.heap.size]?=some (.cells (bytesRow ⟨s.toArray⟩ (grownCap w s.length 0 5)) 5 ((bytesRow ⟨s.toArray⟩ (grownCap w s.length 0 5)).size,(bytesRow ⟨s.toArray⟩ (grownCap w s.length 0 5)).size+1)):=heap_alloc_new w.drew _
 rw [cell_of_row _ _ _ _ _ _ hh]
 have hj:j<s.length:=(List.getElem?_eq_some_iff.1 hu).1
 unfold bytesRow
 rw [Nat.zero_add,Array.getElem?_append_left (by simpa using hj)]
 simp [hu,bv]
theorem zeQ {ops:Array Oper} {rest:List Oper} {o:Oper} {a:Act} {w:World} {Q:Exit→Act→World→Prop} (hgd:o.guard=none) (x:Operand) (ho:o.op = .convert 9 22 x)
  (s:List UInt8) (hx:a.eval x = .string ⟨s.toArray⟩)
  (hk:∀ c w',s.length≤c→At w' w.heap.size w'.heap.size (some ⟨w.heap.size,0,none⟩) s.length s→Below w.heap.size w w'→wpList prog ops Q rest (a.put o.dst (.slice (some ⟨w.heap.size,0,none⟩) s.length c)) w'):wpList prog ops Q (o::rest) a w:=by
 obtain ⟨c,w',hr,hc,ha,hb,_⟩:=zk7 w s
 refine wpList_plain hgd fun K hK=>?_
 unfold Oper.wp execOp
 simp only [ho,hx,Sem.run_bind,hr,Result.andThen_ok,Sem.run_pure]
 exact hK _ _ (hk c w' hc ha hb)
theorem zw0 (w:World) (g:Nat) (m:Mr) (h:zfs w g m):Calls prog 218 #[.pointer (some ⟨g,0,none⟩)] w (WrOk w m 4):=by
 have c61:=(h.1.cell 61).trans (zlv h.2)
 clear h
 go_enter func218,ntmps218
 go_wp2_with (with_reducible refine zeQ rfl (.tmp 3) rfl m.key rfl ?_;intro c w1 hc ha hb;have HA:=hD ha;have HB:=hD hb;clear ha hb)
 go_ret
 exact ⟨_,_,_,rfl,hc,HA.o.more (Nat.zero_le _) lr,HB.o⟩
def wfC (g:Nat):Array Value:=#[.func (.func 213) #[] #[.pointer (some ⟨g,0,none⟩)],.func (.func 214) #[] #[.pointer (some ⟨g,0,none⟩)],
 .func (.func 215) #[] #[.pointer (some ⟨g,0,none⟩)],.func (.func 217) #[] #[.pointer (some ⟨g,0,none⟩)],
 .func (.func 218) #[] #[.pointer (some ⟨g,0,none⟩)],.func (.func 219) #[] #[.pointer (some ⟨g,0,none⟩)]]
theorem zxF {fn:Func} {R:Ending→World→Prop} {a:Act} {w:World} {p:Tmp} {g g':Nat} {t:TypeId} (hf:fn.results=#[.cell p 273])
  (hp:a.tmps.getD p undef = .pointer (some ⟨g,0,none⟩)) (h:Blk w g t (wfC g')) (hd:a.defers=[]) (hR:R (.returned (.agg (wfC g'))) w) :
  bodyPost prog fn R .ret a w:=by
 refine bodyPost_ret (v:=.agg (wfC g')) ?_ hd hR
 have hp':a.tmps[p]?.getD undef = .pointer (some ⟨g,0,none⟩):=by simpa using hp
 have hl:=run_loadVar_row (P:=prog) w g t 273 (wfC g') (0,0) _ h underlying273 rfl (by rw [show (wfC g').size=6 from rfl];kernel_rfl)
 simp [results,hf,hp',asAddr,hl]
theorem wf_one (k:Nat):(wfC k).all (·.oneCell')=true:=by simp [wfC,Value.oneCell']
theorem zeY {ops:Array Oper} {rest:List Oper} {o:Oper} {a:Act} {w:World} {Q:Exit→Act→World→Prop} (hgd:o.guard=none) (x y:Operand) (ho:o.op = .store 273 x y)
  (g:Nat) (hx:a.eval x = .pointer (some ⟨g,0,none⟩)) {k:Nat} (hy:a.eval y = .agg (wfC k)) {t:TypeId} {old:Array Value} (h:Blk w g t old) (hold:old.size=6)
  (hk:∀ w',Blk w' g t (wfC k)→w.grownBy w' (some g)→wpList prog ops Q rest (a.put o.dst undef) w'):wpList prog ops Q (o::rest) a w :=
 wpList_store_row hgd 273 x y ho g (wfC k) hx hy t old h (by rw [show (wfC k).size=6 from rfl];kernel_rfl) (by rw [show (wfC k).size=6 from rfl,hold]) (wf_one k) (hk _ (h.setRow _) (zaB _ _ _))
theorem zkS (w:World) (m:Mr) (hm:m.W):Calls prog 200 #[.agg (mroC m)] w fun e w'=>∃ g,e = .returned (.agg (wfC g))∧zfs w' g m∧Below w.heap.size w w':=by
 have HM:=hD hm
 have HB:=hD ((Blk.new w 186 (mroC m)).alloc (.cells #[.nilFunc,.nilFunc,.nilFunc,.nilFunc,.nilFunc,.nilFunc] 273))
 have HN:=hD (zdf w (.cells (mroC m) 186) 273 #[.nilFunc,.nilFunc,.nilFunc,.nilFunc,.nilFunc,.nilFunc])
 have W0:=hD (((Below.refl w.heap.size w).alloc lr (.cells (mroC m) 186)).alloc (by simp) (.cells #[.nilFunc,.nilFunc,.nilFunc,.nilFunc,.nilFunc,.nilFunc] 273))
 clear hm
 go_enter func200,ntmps200
 go_wp2_with (refine zeY rfl (.tmp 2) (.tmp 9) rfl (w.heap.size+1) rfl (k:=w.heap.size) rfl HN.o rfl ?_;intro w2 hb2 hg2;have HB2:=hD hb2;have HG2:=hD hg2;clear hb2 hg2;refine Hid.o ?_)
 refine hD ?_
 go_wp2
 refine zxF (p:=2) (g:=w.heap.size+1) (t:=273) (g':=w.heap.size) rfl rfl HB2.o rfl ⟨_,rfl,⟨HB.o.grown HG2.o (by simp),HM.o⟩,?_⟩
 exact W0.o.grown HG2.o (by simp;omega) (by simp)
theorem zrA {m:Mr} {j:Nat} (h:(za6 m.k).getD j false=false):wrK m (j+1)=wrK m j:=by rw [wrK,h];simp
theorem zrz {m:Mr} {j:Nat} (h:(za6 m.k).getD j false=true):wrK m (j+1)=wrK m j++wrP m j:=by rw [wrK,h];simp
theorem zoP {m:Mr} (w:m.W) {j:Nat} (h:j<6):(wrP m j).length≤17+(if j=4 then m.key.length else 0):=by
 have h1:=zc1 m.ss w.sb
 have h2:=zc1 m.gs w.gb
 have h3:=zc1 m.fs w.fb
 have h4:=w.rd
 have h5:(zdJ [] m.a 4).length≤4:=by
  unfold zdJ
  split
  ·simp [zbJ]
  ·simp
 rcases (show j=0∨j=1∨j=2∨j=3∨j=4∨j=5 by omega) with rfl | rfl | rfl | rfl | rfl | rfl <;> simp [wrP,zh0,List.length_cons] <;> omega
theorem zkT {m:Mr} (w:m.W):∀ j,j≤6→(wrK m j).length≤j*17+(if 4<j then m.key.length else 0)
 | 0,_=>by simp [wrK]
 | j+1,h=>by
  have ih:=zkT w j (by omega)
  have hp:=zoP w (j:=j) (by omega)
  cases e:(za6 m.k).getD j false
  ·rw [zrA e]
   split at ih <;> split <;> omega
  ·rw [zrz e,List.length_append]
   split at ih <;> split at hp <;> split <;> omega
theorem zrB {m:Mr} (w:m.W) (j:Nat) (h:j≤6):(wrK m j).length≤102+m.key.length:=by
 have h1:=zkT w j h
 split at h1 <;> omega
theorem zwY {m:Mr} (w:m.W) {j:Nat} (h:j<6):(wrK m j).length+(wrP m j).length≤120+m.key.length:=by
 have h1:=zkT w j (by omega)
 have h2:=zoP w h
 split at h1 <;> split at h2 <;> omega
theorem zwt (n:Nat):IntKind.u8.wrap (n:Int)=((UInt8.ofNat n).toNat:Int):=by
 simp [IntKind.wrap,IntKind.bits,IntKind.signed]
theorem zhC (w:World) (k:Int) {j:Nat} (hj:j<6):(Instr.index 275 (.agg (nmC k)) (.int .i64 (j:Int))).run prog w = .ok (.bool ((za6 k).getD j false)) w:=by
 rcases (show j=0∨j=1∨j=2∨j=3∨j=4∨j=5 by omega) with rfl | rfl | rfl | rfl | rfl | rfl <;> kernel_rfl
theorem zaU {ops:Array Oper} {rest:List Oper} {o:Oper} {a:Act} {w:World} {Q:Exit→Act→World→Prop} (hw:Region.wanted o (yielded ops a.tmps)=true) (x y:Operand) (ho:o.op = .index 275 x y)
  (k:Int) (j:Nat) (hj:j<6) (hx:a.eval x = .agg (nmC k)) (hy:a.eval y = .int .i64 (j:Int)) (b:Bool) (hb:(za6 k).getD j false=b)
  (hk:wpList prog ops Q rest (a.put o.dst (.bool b)) w):wpList prog ops Q (o::rest) a w:=by
 subst hb
 unfold wpList
 rw [if_pos hw]
 refine .inl ?_
 unfold Oper.wp execOp
 simp only [ho,hx,hy,Sem.run_bind,zhC w k hj,Result.andThen_ok,Sem.run_pure]
 exact hk
theorem zeS {ops:Array Oper} {rest:List Oper} {o:Oper} {a:Act} {w:World} {Q:Exit→Act→World→Prop} {k:Int} {j:Nat} {b:Bool} (hb:(za6 k).getD j false=b) (hw:Region.wanted o (yielded ops a.tmps)=true) (x y:Operand) (ho:o.op = .index 275 x y)
  (hj:j<6) (hx:a.eval x = .agg (nmC k)) (hy:a.eval y = .int .i64 (j:Int)) (hk:wpList prog ops Q rest (a.put o.dst (.bool b)) w):wpList prog ops Q (o::rest) a w:=zaU hw x y ho k j hj hx hy b hb hk
set_option maxHeartbeats 4000000 in
theorem zil (w:World) (m:Mr) (hm:m.W) (hkn:kwn m.k=true) (hkey:m.key.length≤140737488351232) (hn:za1 w) :
  Calls prog 170 #[.agg (mroC m)] w fun e w'=>∃ v,e = .returned v∧w'.ownsRow w.heap.size 5 1 v (zcM m).length (bvs (zcM m))∧Below w.heap.size w w':=by
 obtain ⟨i0,hi0,hz0,hz1,hz2⟩:=info_parts zbK
 have HM:=hD hm
 have HK:=hD hkn
 have HKey:=hD hkey
 have HB:=hD (Blk.new w 186 (mroC m))
 have W0:=hD ((Below.refl w.heap.size w).alloc lr (.cells (mroC m) 186))
 have HN:=hD (hn.below W0.o)
 clear hm hkn hkey hn
 go_enter func170,ntmps170
 go_wp2_with (with_reducible refine zaA rfl (.tmp 1) rfl w.heap.size rfl HB.o HM.o ?_)
 refine (zkS _ m HM.o).mono ?_
 rintro e w1 ⟨gc,rfl,hc1,hb1⟩
 have C1:=hD hc1
 have B1:=hD (HB.o.over hb1)
 have N1:=hD (HN.o.below hb1)
 have W1:=hD (zaa W0.o hb1 lr)
 have NB:=hD (Blk.new w1 273 #[.nilFunc,.nilFunc,.nilFunc,.nilFunc,.nilFunc,.nilFunc])
 clear hc1 hb1
 go_wp2_with (refine zeY rfl (.tmp 4) (.tmp 8) rfl w1.heap.size rfl (k:=gc) rfl NB.o rfl ?_;intro w2 hb2 hg2;have HB2:=hD hb2;have W2:Hid (Below w1.heap.size w1 w2):=hD (((Below.refl _ _).alloc lr _).grown hg2 (by simp) (by simp));clear hb2 hg2;refine Hid.o ?_)
 refine hD ?_
 have B2:=hD (B1.o.over W2.o)
 have C2:=hD (C1.o.over W2.o C1.o.1.lt)
 have N2:=hD (N1.o.below W2.o)
 have k0:=(B2.o.cell 0).trans zfb
 have hs1:=W1.o.size
 have hs2:=W2.o.size
 have hb1lt:=B1.o.lt
 have hc1lt:=C1.o.1.lt
 have W2':=hD (zaa W1.o W2.o lr)
 go_wp2_with fail
 refine (zb3 w2 m.k N2.o).mono ?_
 rintro e w3 ⟨rfl,hb3⟩
 have B3:=hD (B2.o.over hb3)
 have C3:=hD (C2.o.over hb3 C2.o.1.lt)
 have F3:=hD (HB2.o.over hb3)
 have W3:=hD (zaa W2'.o hb3 lr)
 have hs3:=hb3.size
 have hf2lt:=HB2.o.lt
 clear hb3 k0
 go_wp2_with fail
 go_loopw [3,12] (fun v i wr=>∃ (j c3:Nat) (B:Option Addr),j≤6∧v = .slice B (wrK m j).length c3∧i = .int .i64 j∧wr.ownsRow w3.heap.size 5 1 (.slice B (wrK m j).length c3) (wrK m j).length (bvs (wrK m j))∧Below w3.heap.size w3 wr) (fun _ i _=>6-(intOf i).toNat)
 case atStart=>exact ⟨0,0,none,by omega,rfl,rfl,World.ownsRow_nil _ _ _ _,Below.refl _ _⟩
 case round =>
  obtain ⟨j,c3,B,hj,rfl,rfl,hown,hbel⟩:=hrel
  have HO:=hD hown
  have WB:=hD hbel
  have Br:=hD (B3.o.over hbel)
  have Cr:=hD (C3.o.over hbel C3.o.1.lt)
  have Fr:=hD (F3.o.over hbel)
  have hsr:=hbel.size
  have HL:=hD (zrB HM.o j hj)
  clear hown hbel
  by_cases h6:j=6
  ·subst h6
   have k0:=(Br.o.cell 0).trans zfb
   have HWV:Hid (((wrK m 6).length:Int)%256=((UInt8.ofNat (wrK m 6).length).toNat:Int)):=hD (by simp)
   obtain ⟨K,hK⟩:∃ K:Nat,m.k=(K:Int):=⟨m.k.toNat,by have:=of_decide_eq_true HK.o;omega⟩
   have hK7:1≤K∧K≤7:=by have:=of_decide_eq_true HK.o;omega
   rw [hK] at k0
   have HKV:Hid (((K:Nat):Int)=((UInt8.ofNat m.k.toNat).toNat:Int)):=hD (by rw [hK,Int.toNat_natCast,zbm (by omega)])
   have HK2:=hD hK
   clear hK
   have HWL:Hid ((zcM m).length=2+(wrK m 6).length):=hD (by unfold zcM zkd;simp;omega)
   have HWE:Hid (zcM m=[UInt8.ofNat m.k.toNat,UInt8.ofNat (wrK m 6).length]++wrK m 6):=hD rfl
   go_wp2_with (at_builtin;go_must (refine zam _ rfl (.tmp 30) (.tmp 31) 22 rfl wr.heap.size 5 i0 underlying22 hi0 hz0 hz1 hz2 (.slice (some ⟨wr.heap.size,0,none⟩) 2 2) 2 [UInt8.ofNat m.k.toNat,UInt8.ofNat (wrK m 6).length] rfl (zxY wr _ _ _ _ HKV.o HWV.o) _ _ B (wrK m 6).length c3 (wrK m 6) rfl ((At.own HO.o).alloc lr _) (by have h1:=HL.o;have h4:=HKey.o;omega) (by simp) ?_);intro v5 w5 ho5 hg5 _;have HO5:=hD ho5;have HG5:=hD hg5;clear ho5 hg5)
   go_ret
   refine ⟨_,rfl,?_,?_⟩
   ·rw [HWL.o,HWE.o]
    exact zaC HO5.o (by have:=W3.o.size;omega)
   ·exact zns (W3.o.trans (WB.o.mono (by have:=W3.o.size;omega))) lr _ HG5.o lr
  ·have hjI:(j:Int)<6:=by omega
   cases hp:(za6 m.k).getD j false
   ·have HP:=hD hp
    clear hp
    go_wp2_with (with_reducible refine zaU rfl (.tmp 11) (.tmp 12) rfl m.k j (by omega) rfl rfl _ HP.o ?_)
    go_roundw
    case rel=>exact ⟨j+1,c3,B,by omega,by rw [zrA HP.o],by go_num,by rw [zrA HP.o];exact HO.o,WB.o⟩
    case measure=>simp [intOf];omega
   ·have HP:=hD hp
    have HPL:=hD (zwY HM.o (j:=j) (by omega))
    have hf0:=(Fr.o.cell 0).trans (show (wfC gc)[0]?=some (.func (.func 213) #[] #[.pointer (some ⟨gc,0,none⟩)]) from rfl)
    have hf1:=(Fr.o.cell 1).trans (show (wfC gc)[1]?=some (.func (.func 214) #[] #[.pointer (some ⟨gc,0,none⟩)]) from rfl)
    have hf2:=(Fr.o.cell 2).trans (show (wfC gc)[2]?=some (.func (.func 215) #[] #[.pointer (some ⟨gc,0,none⟩)]) from rfl)
    have hf3:=(Fr.o.cell 3).trans (show (wfC gc)[3]?=some (.func (.func 217) #[] #[.pointer (some ⟨gc,0,none⟩)]) from rfl)
    have hf4:=(Fr.o.cell 4).trans (show (wfC gc)[4]?=some (.func (.func 218) #[] #[.pointer (some ⟨gc,0,none⟩)]) from rfl)
    have hf5:=(Fr.o.cell 5).trans (show (wfC gc)[5]?=some (.func (.func 219) #[] #[.pointer (some ⟨gc,0,none⟩)]) from rfl)
    clear hp
    rcases (show j=0∨j=1∨j=2∨j=3∨j=4∨j=5 by omega) with rfl | rfl | rfl | rfl | rfl | rfl
    all_goals
     clear h6 hjI hj
     go_wp2_with (with_reducible refine zeS HP.o rfl (.tmp 11) (.tmp 12) rfl (by omega) rfl rfl ?_)
     first
      | refine (zw4 wr _ m Cr.o).mono ?_
      | refine (zw3 wr _ m Cr.o).mono ?_
      | refine (zw2 wr _ m Cr.o).mono ?_
      | refine (zw1 wr _ m Cr.o).mono ?_
      | refine (zw0 wr _ m Cr.o).mono ?_
      | refine (zwZ wr _ m Cr.o).mono ?_
     rintro e w4 ⟨A4,n4,c4,rfl,hc4,ha4,hb4⟩
     have HA4:=hD ha4
     have HO4:=hD (zba HO.o hb4)
     have W4:=hD (zaa WB.o hb4 lr)
     have hs4:=hb4.size
     have HN4:=hD ha4.len
     clear ha4 hb4 hf0 hf1 hf2 hf3 hf4 hf5
     go_wp2_with (at_builtin;go_must (refine zam _ rfl (.tmp 17) (.tmp 21) 22 rfl w3.heap.size 5 i0 underlying22 hi0 hz0 hz1 hz2 _ _ _ rfl HO4.o 0 _ A4 n4 c4 _ rfl HA4.o (by have h1:=HL.o;have h2:=HPL.o;have h3:=HN4.o;have h4:=HKey.o;omega) (by omega) ?_);intro v5 w5 ho5 hg5 _;rw [← HN4.o,← List.length_append,← zrz HP.o] at ho5;have HO5:=hD ho5;have HG5:=hD hg5;clear ho5 hg5)
     obtain ⟨A5,c5,rfl,_,_⟩:=zag HO5.o
     go_roundw
     case rel=>refine ⟨_,c5,A5,?_,?_,?_,HO5.o,W4.o.grown HG5.o (by omega) (fun g hg=>(HO4.o.lt g hg).1)⟩ <;> first | omega | rfl | go_num
     case measure=>simp [intOf]
end
end Go.Proofs.YtplpglfjcieloaaGreatDoor
