/-
  What withBits, writersOf and its closures of package mroute do, in whatever memory. No condition.
-/
import Derived.Test.YtblnkbfbhlhgkaaGreatDoorKSAP
set_option linter.unusedVariables false
set_option linter.unusedSimpArgs false
namespace Go.Proofs.YtblnkbfbhlhgkaaGreatDoor
section
set_option maxRecDepth 20000
open Go.RowKit
theorem zvG (w:World) (x:UInt8) (V:Int) (hV:V=(x.toNat:Int)) :
  (w.alloc (.cells #[.int .u8 V] 5)).ownsRow w.heap.size 5 1 (.slice (some ⟨w.heap.size,0,none⟩) 1 1) 1 (bvs [x]):=by
 subst hV
 exact zcn (Blk.new w _ _) (Nat.le_refl _) (Nat.le_refl _) (by decide) rfl rfl
theorem zvF (w:World) (x y:UInt8) (V U:Int) (hV:V=(x.toNat:Int)) (hU:U=(y.toNat:Int)) :
  (w.alloc (.cells #[.int .u8 V,.int .u8 U] 5)).ownsRow w.heap.size 5 1 (.slice (some ⟨w.heap.size,0,none⟩) 2 2) 2 (bvs [x,y]):=by
 subst hV hU
 exact zcn (Blk.new w _ _) (Nat.le_refl _) (Nat.le_refl _) (by decide) rfl rfl
set_option maxHeartbeats 1000000 in
theorem zhl (w:World) (s:Int) (bs:List UInt8) (hl:bs.length=16) :
  Calls Tryz.prog 241 #[.agg (zar s bs)] w fun e w'=>∃ v,e = .returned v∧w'.ownsRow w.heap.size 5 1 v (zhO s bs).length (bvs (zhO s bs))∧Below w.heap.size w w':=by
 have HB:=hide (Blk.new w 25 (zar s bs))
 have HL:=hide hl
 have hn:=zdg s hl
 have W0:=hide ((Below.refl w.heap.size w).alloc (Nat.le_refl _) (.cells (zar s bs) 25))
 obtain ⟨i0,hi0,hz0,hz1,hz2⟩:=info_parts zbJ
 have HV:Hid ((8*((zaz s bs).length:Int))=((UInt8.ofNat (8*(zaz s bs).length)).toNat:Int)):=hide (by rw [zbv (by omega)];omega)
 have HP:Hid (zhO s bs=[UInt8.ofNat (8*(zaz s bs).length)]++zaz s bs):=hide rfl
 have HPL:Hid ((zhO s bs).length=1+(zaz s bs).length):=hide (by unfold zhO;simp;omega)
 clear hl
 go_enter Tryz.func241,Tryz.ntmps241
 go_wp2_with (with_reducible refine zaH rfl (.tmp 1) rfl w.heap.size rfl HB.out HL.out ?_)
 refine (zdf _ s bs HL.out).mono ?_
 rintro e w1 ⟨v,rfl,ho,hb⟩
 obtain ⟨A,c,rfl,_,_⟩:=zac ho
 have HA:=hide (At.own ho)
 have W1:=hide (zaa W0.out hb (Nat.le_refl _))
 have hsz:w.heap.size≤w1.heap.size:=W1.out.size
 clear ho hb
 go_wp2_with (at_builtin;refine zah _ rfl _ _ 36 rfl w1.heap.size 5 i0 Tryz.underlying36 hi0 hz0 hz1 hz2 (.slice (some ⟨w1.heap.size,0,none⟩) 1 1) 1 [UInt8.ofNat (8*(zaz s bs).length)] rfl (zvG w1 _ _ HV.out) _ w1.heap.size A _ c _ rfl (HA.out.alloc (Nat.le_refl _) _) (by omega) (by simp) ?_;intro v2 w2 ho2 hg2 ha2;have HO2:=hide ho2;have HG2:=hide hg2;clear ho2 hg2)
 go_ret
 refine ⟨_,rfl,?_,?_⟩
 ·rw [HPL.out,HP.out]
  exact zaq HO2.out hsz
 ·exact zma W1.out (Nat.le_refl _) _ HG2.out (Nat.le_refl _)
def zfp (w:World) (g:Nat) (m:Mr):Prop:=Blk w g 97 (mroC m)∧m.W
theorem zfp.over {w x:World} {g:Nat} {m:Mr} (h:zfp w g m) {B:Nat} (hb:Below B w x) (hB:g<B):zfp x g m:=⟨h.1.below hb hB,h.2⟩
theorem At.rdM {w:World} {g:Nat} {m:Mr} (h:zfp w g m):At w 0 (g+1) (some ⟨g,1,none⟩) 8 m.rd:=by
 have hr:=mro_rd h.2 h.1
 refine ⟨h.2.rd,fun _=>⟨g,1,rfl,Nat.zero_le _,by omega,fun j u hu=>?_⟩⟩
 exact hr j (bv u) (by unfold bvs;rw [List.getElem?_map,hu];rfl)
def WrOk (w:World) (m:Mr) (j:Nat) (e:Ending) (w':World):Prop :=
 ∃ A n c,e = .returned (.slice A n c)∧n≤c∧At w' 0 w'.heap.size A n (wrP m j)∧Below w.heap.size w w'
theorem zuO (w:World) (g:Nat) (m:Mr) (h:zfp w g m):Calls Tryz.prog 238 #[.pointer (some ⟨g,0,none⟩)] w (WrOk w m 0):=by
 have HA:=hide (At.rdM h)
 have hl:g+1≤w.heap.size:=h.1.lt
 clear h
 go_enter Tryz.func238,Tryz.ntmps238
 go_wp2
 go_ret
 exact ⟨_,_,_,rfl,Nat.le_refl _,HA.out.more (Nat.le_refl _) hl,Below.refl _ _⟩
theorem zuN (w:World) (g:Nat) (m:Mr) (h:zfp w g m):Calls Tryz.prog 239 #[.pointer (some ⟨g,0,none⟩)] w (WrOk w m 1):=by
 have c9:=(h.1.cell 9).trans (zuA h.2)
 clear h
 go_enter Tryz.func239,Tryz.ntmps239
 go_wp2_with fail
 refine (zvC w 0 0 none 0 0 [] (At.nil _ _ _ _) (Nat.zero_le _) (by omega) m.a 4).mono ?_
 rintro e w1 ⟨v,rfl,ho,hb⟩
 obtain ⟨A,c,rfl,hc,_⟩:=zac ho
 have HO:=hide ho
 have HB:=hide hb
 clear ho hb
 go_wp2
 go_ret
 exact ⟨_,_,_,rfl,hc,by rw [← (At.own HO.out).len];exact (At.own HO.out).more (Nat.zero_le _) (Nat.le_refl _),HB.out⟩
theorem zuM (w:World) (g:Nat) (m:Mr) (h:zfp w g m):Calls Tryz.prog 240 #[.pointer (some ⟨g,0,none⟩)] w (WrOk w m 2):=by
 have HS:=hide (zvN h.2 h.1)
 have HL:=hide h.2.sb
 clear h
 go_enter Tryz.func240,Tryz.ntmps240
 go_wp2_with (with_reducible refine za4 rfl (.tmp 2) rfl g 10 rfl HS.out HL.out ?_)
 refine (zhl w m.ss m.sb HL.out).mono ?_
 rintro e w1 ⟨v,rfl,ho,hb⟩
 obtain ⟨A,c,rfl,hc,_⟩:=zac ho
 have HO:=hide ho
 have HB:=hide hb
 clear ho hb
 go_wp2
 go_ret
 exact ⟨_,_,_,rfl,hc,(At.own HO.out).more (Nat.zero_le _) (Nat.le_refl _),HB.out⟩
theorem zuL (w:World) (g:Nat) (m:Mr) (h:zfp w g m):Calls Tryz.prog 242 #[.pointer (some ⟨g,0,none⟩)] w (WrOk w m 3):=by
 have HS:=hide (zvO h.2 h.1)
 have HL:=hide h.2.gb
 clear h
 go_enter Tryz.func242,Tryz.ntmps242
 go_wp2_with (with_reducible refine za4 rfl (.tmp 2) rfl g 27 rfl HS.out HL.out ?_)
 refine (zhl w m.gs m.gb HL.out).mono ?_
 rintro e w1 ⟨v,rfl,ho,hb⟩
 obtain ⟨A,c,rfl,hc,_⟩:=zac ho
 have HO:=hide ho
 have HB:=hide hb
 clear ho hb
 go_wp2
 go_ret
 exact ⟨_,_,_,rfl,hc,(At.own HO.out).more (Nat.zero_le _) (Nat.le_refl _),HB.out⟩
theorem zuJ (w:World) (g:Nat) (m:Mr) (h:zfp w g m):Calls Tryz.prog 244 #[.pointer (some ⟨g,0,none⟩)] w (WrOk w m 5):=by
 have HS:=hide (mro_f h.2 h.1)
 have HL:=hide h.2.fb
 clear h
 go_enter Tryz.func244,Tryz.ntmps244
 go_wp2_with (with_reducible refine za4 rfl (.tmp 2) rfl g 44 rfl HS.out HL.out ?_)
 refine (zdf w m.fs m.fb HL.out).mono ?_
 rintro e w1 ⟨v,rfl,ho,hb⟩
 obtain ⟨A,c,rfl,hc,_⟩:=zac ho
 have HO:=hide ho
 have HB:=hide hb
 clear ho hb
 go_wp2
 go_ret
 exact ⟨_,_,_,rfl,hc,(At.own HO.out).more (Nat.zero_le _) (Nat.le_refl _),HB.out⟩
theorem zkk (w:World) (s:List UInt8):∃ c w',(convert 9 36 (.string ⟨s.toArray⟩)).run Tryz.prog w = .ok (.slice (some ⟨w.heap.size,0,none⟩) s.length c) w'∧s.length≤c ∧
  At w' w.heap.size w'.heap.size (some ⟨w.heap.size,0,none⟩) s.length s∧Below w.heap.size w w'∧w'.heap.size=w.heap.size+1:=by
 have hr:=run_bytes_of_string (P:=Tryz.prog) w 9 36 5 ⟨s.toArray⟩ Tryz.underlying9 Tryz.underlying36 Tryz.underlying5
 have hz:ByteArray.size ⟨s.toArray⟩=s.length:=by simp [ByteArray.size]
 rw [hz] at hr
 refine ⟨_,_,hr,grownCap_ge _ _ _ _,?_,((zak (Below.refl w.heap.size w))).alloc (by simp) _,by simp⟩
 refine ⟨rfl,fun _=>⟨_,0,rfl,Nat.le_refl _,by simp,fun j u hu=>?_⟩⟩
 have hh:(w.drew.alloc (.cells (bytesRow ⟨s.toArray⟩ (grownCap w s.length 0 5)) 5 ((bytesRow ⟨s.toArray⟩ (grownCap w s.length 0 5)).size,(bytesRow ⟨s.toArray⟩ (grownCap w s.length 0 5)).size+1))).heap[w.heap.size]?=some (.cells (bytesRow ⟨s.toArray⟩ (grownCap w s.length 0 5)) 5 ((bytesRow ⟨s.toArray⟩ (grownCap w s.length 0 5)).size,(bytesRow ⟨s.toArray⟩ (grownCap w s.length 0 5)).size+1)):=heap_alloc_new w.drew _
 rw [cell_of_row _ _ _ _ _ _ hh]
 have hj:j<s.length:=(List.getElem?_eq_some_iff.1 hu).1
 unfold bytesRow
 rw [Nat.zero_add,Array.getElem?_append_left (by simpa using hj)]
 simp [hu,bv]
theorem zeS {ops:Array Oper} {rest:List Oper} {o:Oper} {a:Act} {w:World} {Q:Exit→Act→World→Prop} (hgd:o.guard=none) (x:Operand) (ho:o.op = .convert 9 36 x)
  (s:List UInt8) (hx:a.eval x = .string ⟨s.toArray⟩)
  (hk:∀ c w',s.length≤c→At w' w.heap.size w'.heap.size (some ⟨w.heap.size,0,none⟩) s.length s→Below w.heap.size w w'→wpList Tryz.prog ops Q rest (a.put o.dst (.slice (some ⟨w.heap.size,0,none⟩) s.length c)) w'):wpList Tryz.prog ops Q (o::rest) a w:=by
 obtain ⟨c,w',hr,hc,ha,hb,_⟩:=zkk w s
 refine wpList_plain hgd fun K hK=>?_
 unfold Oper.wp execOp
 simp only [ho,hx,Sem.run_bind,hr,Result.andThen_ok,Sem.run_pure]
 exact hK _ _ (hk c w' hc ha hb)
theorem zuK (w:World) (g:Nat) (m:Mr) (h:zfp w g m):Calls Tryz.prog 243 #[.pointer (some ⟨g,0,none⟩)] w (WrOk w m 4):=by
 have c61:=(h.1.cell 61).trans (zkB h.2)
 clear h
 go_enter Tryz.func243,Tryz.ntmps243
 go_wp2_with (with_reducible refine zeS rfl (.tmp 3) rfl m.key rfl ?_;intro c w1 hc ha hb;have HA:=hide ha;have HB:=hide hb;clear ha hb)
 go_ret
 exact ⟨_,_,_,rfl,hc,HA.out.more (Nat.zero_le _) (Nat.le_refl _),HB.out⟩
def wfC (g:Nat):Array Value:=#[.func (.func 238) #[] #[.pointer (some ⟨g,0,none⟩)],.func (.func 239) #[] #[.pointer (some ⟨g,0,none⟩)],
 .func (.func 240) #[] #[.pointer (some ⟨g,0,none⟩)],.func (.func 242) #[] #[.pointer (some ⟨g,0,none⟩)],
 .func (.func 243) #[] #[.pointer (some ⟨g,0,none⟩)],.func (.func 244) #[] #[.pointer (some ⟨g,0,none⟩)]]
theorem zvm {fn:Func} {R:Ending→World→Prop} {a:Act} {w:World} {p:Tmp} {g g':Nat} {t:TypeId} (hf:fn.results=#[.cell p 238])
  (hp:a.tmps.getD p undef = .pointer (some ⟨g,0,none⟩)) (h:Blk w g t (wfC g')) (hd:a.defers=[]) (hR:R (.returned (.agg (wfC g'))) w) :
  bodyPost Tryz.prog fn R .ret a w:=by
 refine bodyPost_ret (v:=.agg (wfC g')) ?_ hd hR
 have hp':a.tmps[p]?.getD undef = .pointer (some ⟨g,0,none⟩):=by simpa using hp
 have hl:=run_loadVar_row (P:=Tryz.prog) w g t 238 (wfC g') (0,0) _ h Tryz.underlying238 rfl (by rw [show (wfC g').size=6 from rfl];kernel_rfl)
 simp [results,hf,hp',asAddr,hl]
theorem wf_one (k:Nat):(wfC k).all (·.oneCell')=true:=by simp [wfC,Value.oneCell']
theorem zeZ {ops:Array Oper} {rest:List Oper} {o:Oper} {a:Act} {w:World} {Q:Exit→Act→World→Prop} (hgd:o.guard=none) (x y:Operand) (ho:o.op = .store 238 x y)
  (g:Nat) (hx:a.eval x = .pointer (some ⟨g,0,none⟩)) {k:Nat} (hy:a.eval y = .agg (wfC k)) {t:TypeId} {old:Array Value} (h:Blk w g t old) (hold:old.size=6)
  (hk:∀ w',Blk w' g t (wfC k)→w.grownBy w' (some g)→wpList Tryz.prog ops Q rest (a.put o.dst undef) w'):wpList Tryz.prog ops Q (o::rest) a w :=
 wpList_store_row hgd 238 x y ho g (wfC k) hx hy t old h (by rw [show (wfC k).size=6 from rfl];kernel_rfl) (by rw [show (wfC k).size=6 from rfl,hold]) (wf_one k) (hk _ (h.setRow _) (zaP _ _ _))
theorem zj7 (w:World) (m:Mr) (hm:m.W):Calls Tryz.prog 217 #[.agg (mroC m)] w fun e w'=>∃ g,e = .returned (.agg (wfC g))∧zfp w' g m∧Below w.heap.size w w':=by
 have HM:=hide hm
 have HB:=hide ((Blk.new w 97 (mroC m)).alloc (.cells #[.nilFunc,.nilFunc,.nilFunc,.nilFunc,.nilFunc,.nilFunc] 238))
 have HN:=hide (zcT w (.cells (mroC m) 97) 238 #[.nilFunc,.nilFunc,.nilFunc,.nilFunc,.nilFunc,.nilFunc])
 have W0:=hide (((Below.refl w.heap.size w).alloc (Nat.le_refl _) (.cells (mroC m) 97)).alloc (by simp) (.cells #[.nilFunc,.nilFunc,.nilFunc,.nilFunc,.nilFunc,.nilFunc] 238))
 clear hm
 go_enter Tryz.func217,Tryz.ntmps217
 go_wp2_with (refine zeZ rfl (.tmp 2) (.tmp 9) rfl (w.heap.size+1) rfl (k:=w.heap.size) rfl HN.out rfl ?_;intro w2 hb2 hg2;have HB2:=hide hb2;have HG2:=hide hg2;clear hb2 hg2;refine Hid.out ?_)
 refine hide ?_
 go_wp2
 refine zvm (p:=2) (g:=w.heap.size+1) (t:=238) (g':=w.heap.size) rfl rfl HB2.out rfl ⟨_,rfl,⟨HB.out.grown HG2.out (by simp),HM.out⟩,?_⟩
 exact W0.out.grown HG2.out (by simp;omega) (by simp)
theorem zd9 {m:Mr} {j:Nat} (h:(zaZ m.k).getD j false=false):wrK m (j+1)=wrK m j:=by rw [wrK,h];simp
theorem zfT {m:Mr} {j:Nat} (h:(zaZ m.k).getD j false=true):wrK m (j+1)=wrK m j++wrP m j:=by rw [wrK,h];simp
theorem zns {m:Mr} (w:m.W) {j:Nat} (h:j<6):(wrP m j).length≤17+(if j=4 then m.key.length else 0):=by
 have h1:=zdg m.ss w.sb
 have h2:=zdg m.gs w.gb
 have h3:=zdg m.fs w.fb
 have h4:=w.rd
 have h5:(zhw [] m.a 4).length≤4:=by
  unfold zhw
  split
  ·simp [zbg]
  ·simp
 rcases (show j=0∨j=1∨j=2∨j=3∨j=4∨j=5 by omega) with rfl | rfl | rfl | rfl | rfl | rfl <;> simp [wrP,zhO,List.length_cons] <;> omega
theorem zj8 {m:Mr} (w:m.W):∀ j,j≤6→(wrK m j).length≤j*17+(if 4<j then m.key.length else 0)
 | 0,_=>by simp [wrK]
 | j+1,h=>by
  have ih:=zj8 w j (by omega)
  have hp:=zns w (j:=j) (by omega)
  cases e:(zaZ m.k).getD j false
  ·rw [zd9 e]
   split at ih <;> split <;> omega
  ·rw [zfT e,List.length_append]
   split at ih <;> split at hp <;> split <;> omega
theorem zpU {m:Mr} (w:m.W) (j:Nat) (h:j≤6):(wrK m j).length≤102+m.key.length:=by
 have h1:=zj8 w j h
 split at h1 <;> omega
theorem zgO {m:Mr} (w:m.W) {j:Nat} (h:j<6):(wrK m j).length+(wrP m j).length≤120+m.key.length:=by
 have h1:=zj8 w j (by omega)
 have h2:=zns w h
 split at h1 <;> split at h2 <;> omega
theorem zuk (n:Nat):IntKind.u8.wrap (n:Int)=((UInt8.ofNat n).toNat:Int):=by
 simp [IntKind.wrap,IntKind.bits,IntKind.signed]
theorem zhp (w:World) (k:Int) {j:Nat} (hj:j<6):(Instr.index 240 (.agg (nmC k)) (.int .i64 (j:Int))).run Tryz.prog w = .ok (.bool ((zaZ k).getD j false)) w:=by
 rcases (show j=0∨j=1∨j=2∨j=3∨j=4∨j=5 by omega) with rfl | rfl | rfl | rfl | rfl | rfl <;> kernel_rfl
theorem zan {ops:Array Oper} {rest:List Oper} {o:Oper} {a:Act} {w:World} {Q:Exit→Act→World→Prop} (hw:Region.wanted o (yielded ops a.tmps)=true) (x y:Operand) (ho:o.op = .index 240 x y)
  (k:Int) (j:Nat) (hj:j<6) (hx:a.eval x = .agg (nmC k)) (hy:a.eval y = .int .i64 (j:Int)) (b:Bool) (hb:(zaZ k).getD j false=b)
  (hk:wpList Tryz.prog ops Q rest (a.put o.dst (.bool b)) w):wpList Tryz.prog ops Q (o::rest) a w:=by
 subst hb
 unfold wpList
 rw [if_pos hw]
 refine .inl ?_
 unfold Oper.wp execOp
 simp only [ho,hx,hy,Sem.run_bind,zhp w k hj,Result.andThen_ok,Sem.run_pure]
 exact hk
set_option maxHeartbeats 4000000 in
theorem zh5 (w:World) (m:Mr) (hm:m.W) (hkn:kwn m.k=true) (hkey:m.key.length≤140737488351232) (hn:zaT w) :
  Calls Tryz.prog 186 #[.agg (mroC m)] w fun e w'=>∃ v,e = .returned v∧w'.ownsRow w.heap.size 5 1 v (zcX m).length (bvs (zcX m))∧Below w.heap.size w w':=by
 obtain ⟨i0,hi0,hz0,hz1,hz2⟩:=info_parts zbJ
 have HM:=hide hm
 have HK:=hide hkn
 have HKey:=hide hkey
 have HB:=hide (Blk.new w 97 (mroC m))
 have W0:=hide ((Below.refl w.heap.size w).alloc (Nat.le_refl _) (.cells (mroC m) 97))
 have HN:=hide (hn.below W0.out)
 clear hm hkn hkey hn
 go_enter Tryz.func186,Tryz.ntmps186
 go_wp2_with (with_reducible refine zaD rfl (.tmp 1) rfl w.heap.size rfl HB.out HM.out ?_)
 refine (zj7 _ m HM.out).mono ?_
 rintro e w1 ⟨gc,rfl,hc1,hb1⟩
 have C1:=hide hc1
 have B1:=hide (HB.out.over hb1)
 have N1:=hide (HN.out.below hb1)
 have W1:=hide (zaa W0.out hb1 (Nat.le_refl _))
 have NB:=hide (Blk.new w1 238 #[.nilFunc,.nilFunc,.nilFunc,.nilFunc,.nilFunc,.nilFunc])
 clear hc1 hb1
 go_wp2_with (refine zeZ rfl (.tmp 4) (.tmp 8) rfl w1.heap.size rfl (k:=gc) rfl NB.out rfl ?_;intro w2 hb2 hg2;have HB2:=hide hb2;have W2:Hid (Below w1.heap.size w1 w2):=hide (((Below.refl _ _).alloc (Nat.le_refl _) _).grown hg2 (by simp) (by simp));clear hb2 hg2;refine Hid.out ?_)
 refine hide ?_
 have B2:=hide (B1.out.over W2.out)
 have C2:=hide (C1.out.over W2.out C1.out.1.lt)
 have N2:=hide (N1.out.below W2.out)
 have k0:=(B2.out.cell 0).trans ze7
 have hs1:=W1.out.size
 have hs2:=W2.out.size
 have hb1lt:=B1.out.lt
 have hc1lt:=C1.out.1.lt
 have W2':=hide (zaa W1.out W2.out (Nat.le_refl _))
 go_wp2_with fail
 refine (zcc w2 m.k N2.out).mono ?_
 rintro e w3 ⟨rfl,hb3⟩
 have B3:=hide (B2.out.over hb3)
 have C3:=hide (C2.out.over hb3 C2.out.1.lt)
 have F3:=hide (HB2.out.over hb3)
 have W3:=hide (zaa W2'.out hb3 (Nat.le_refl _))
 have hs3:=hb3.size
 have hf2lt:=HB2.out.lt
 clear hb3 k0
 go_wp2_with fail
 go_loopw [3,12] (fun v i wr=>∃ (j c3:Nat) (B:Option Addr),j≤6∧v = .slice B (wrK m j).length c3∧i = .int .i64 j∧wr.ownsRow w3.heap.size 5 1 (.slice B (wrK m j).length c3) (wrK m j).length (bvs (wrK m j))∧Below w3.heap.size w3 wr) (fun _ i _=>6-(intOf i).toNat)
 case atStart=>exact ⟨0,0,none,by omega,rfl,rfl,World.ownsRow_nil _ _ _ _,Below.refl _ _⟩
 case round =>
  obtain ⟨j,c3,B,hj,rfl,rfl,hown,hbel⟩:=hrel
  have HO:=hide hown
  have WB:=hide hbel
  have Br:=hide (B3.out.over hbel)
  have Cr:=hide (C3.out.over hbel C3.out.1.lt)
  have Fr:=hide (F3.out.over hbel)
  have hsr:=hbel.size
  have HL:=hide (zpU HM.out j hj)
  clear hown hbel
  rcases (show j=0∨j=1∨j=2∨j=3∨j=4∨j=5∨j=6 by omega) with rfl | rfl | rfl | rfl | rfl | rfl | rfl
  ·cases hp:(zaZ m.k).getD 0 false
   ·have HP:=hide hp
    clear hp
    go_wp2_with (with_reducible refine zan rfl (.tmp 11) (.tmp 12) rfl m.k 0 (by omega) rfl rfl _ HP.out ?_)
    go_roundw
    case rel=>exact ⟨1,c3,B,by omega,by rw [zd9 HP.out],rfl,by rw [zd9 HP.out];exact HO.out,WB.out⟩
    case measure=>simp [intOf]
   ·have HP:=hide hp
    have hf:=(Fr.out.cell 0).trans (show (wfC gc)[0]?=some (.func (.func 238) #[] #[.pointer (some ⟨gc,0,none⟩)]) from rfl)
    clear hp
    go_wp2_with (with_reducible refine zan rfl (.tmp 11) (.tmp 12) rfl m.k 0 (by omega) rfl rfl _ HP.out ?_)
    refine (zuO wr _ m Cr.out).mono ?_
    rintro e w4 ⟨A4,n4,c4,rfl,hc4,ha4,hb4⟩
    have HA4:=hide ha4
    have HO4:=hide (zaw HO.out hb4)
    have W4:=hide (zaa WB.out hb4 (Nat.le_refl _))
    have hs4:=hb4.size
    have HPL:=hide (zgO HM.out (j:=0) (by omega))
    have HN4:=hide ha4.len
    clear ha4 hb4 hf
    go_wp2_with (at_builtin;go_must (refine zah _ rfl (.tmp 17) (.tmp 21) 36 rfl w3.heap.size 5 i0 Tryz.underlying36 hi0 hz0 hz1 hz2 (.slice B (wrK m 0).length c3) (wrK m 0).length (wrK m 0) rfl HO4.out 0 _ A4 n4 c4 (wrP m 0) rfl HA4.out (by have h1:=HL.out;have h2:=HPL.out;have h3:=HN4.out;have h4:=HKey.out;omega) (by omega) ?_);intro v5 w5 ho5 hg5 _;rw [← HN4.out,← List.length_append,← zfT HP.out] at ho5;have HO5:=hide ho5;have HG5:=hide hg5;clear ho5 hg5)
    obtain ⟨A5,c5,rfl,_,_⟩:=zac HO5.out
    go_roundw
    case rel=>exact ⟨1,c5,A5,by omega,rfl,rfl,HO5.out,W4.out.grown HG5.out (by omega) (fun g hg=>(HO4.out.lt g hg).1)⟩
    case measure=>simp [intOf]
  ·cases hp:(zaZ m.k).getD 1 false
   ·have HP:=hide hp
    clear hp
    go_wp2_with (with_reducible refine zan rfl (.tmp 11) (.tmp 12) rfl m.k 1 (by omega) rfl rfl _ HP.out ?_)
    go_roundw
    case rel=>exact ⟨2,c3,B,by omega,by rw [zd9 HP.out],rfl,by rw [zd9 HP.out];exact HO.out,WB.out⟩
    case measure=>simp [intOf]
   ·have HP:=hide hp
    have hf:=(Fr.out.cell 1).trans (show (wfC gc)[1]?=some (.func (.func 239) #[] #[.pointer (some ⟨gc,0,none⟩)]) from rfl)
    clear hp
    go_wp2_with (with_reducible refine zan rfl (.tmp 11) (.tmp 12) rfl m.k 1 (by omega) rfl rfl _ HP.out ?_)
    refine (zuN wr _ m Cr.out).mono ?_
    rintro e w4 ⟨A4,n4,c4,rfl,hc4,ha4,hb4⟩
    have HA4:=hide ha4
    have HO4:=hide (zaw HO.out hb4)
    have W4:=hide (zaa WB.out hb4 (Nat.le_refl _))
    have hs4:=hb4.size
    have HPL:=hide (zgO HM.out (j:=1) (by omega))
    have HN4:=hide ha4.len
    clear ha4 hb4 hf
    go_wp2_with (at_builtin;go_must (refine zah _ rfl (.tmp 17) (.tmp 21) 36 rfl w3.heap.size 5 i0 Tryz.underlying36 hi0 hz0 hz1 hz2 (.slice B (wrK m 1).length c3) (wrK m 1).length (wrK m 1) rfl HO4.out 0 _ A4 n4 c4 (wrP m 1) rfl HA4.out (by have h1:=HL.out;have h2:=HPL.out;have h3:=HN4.out;have h4:=HKey.out;omega) (by omega) ?_);intro v5 w5 ho5 hg5 _;rw [← HN4.out,← List.length_append,← zfT HP.out] at ho5;have HO5:=hide ho5;have HG5:=hide hg5;clear ho5 hg5)
    obtain ⟨A5,c5,rfl,_,_⟩:=zac HO5.out
    go_roundw
    case rel=>exact ⟨2,c5,A5,by omega,rfl,rfl,HO5.out,W4.out.grown HG5.out (by omega) (fun g hg=>(HO4.out.lt g hg).1)⟩
    case measure=>simp [intOf]
  ·cases hp:(zaZ m.k).getD 2 false
   ·have HP:=hide hp
    clear hp
    go_wp2_with (with_reducible refine zan rfl (.tmp 11) (.tmp 12) rfl m.k 2 (by omega) rfl rfl _ HP.out ?_)
    go_roundw
    case rel=>exact ⟨3,c3,B,by omega,by rw [zd9 HP.out],rfl,by rw [zd9 HP.out];exact HO.out,WB.out⟩
    case measure=>simp [intOf]
   ·have HP:=hide hp
    have hf:=(Fr.out.cell 2).trans (show (wfC gc)[2]?=some (.func (.func 240) #[] #[.pointer (some ⟨gc,0,none⟩)]) from rfl)
    clear hp
    go_wp2_with (with_reducible refine zan rfl (.tmp 11) (.tmp 12) rfl m.k 2 (by omega) rfl rfl _ HP.out ?_)
    refine (zuM wr _ m Cr.out).mono ?_
    rintro e w4 ⟨A4,n4,c4,rfl,hc4,ha4,hb4⟩
    have HA4:=hide ha4
    have HO4:=hide (zaw HO.out hb4)
    have W4:=hide (zaa WB.out hb4 (Nat.le_refl _))
    have hs4:=hb4.size
    have HPL:=hide (zgO HM.out (j:=2) (by omega))
    have HN4:=hide ha4.len
    clear ha4 hb4 hf
    go_wp2_with (at_builtin;go_must (refine zah _ rfl (.tmp 17) (.tmp 21) 36 rfl w3.heap.size 5 i0 Tryz.underlying36 hi0 hz0 hz1 hz2 (.slice B (wrK m 2).length c3) (wrK m 2).length (wrK m 2) rfl HO4.out 0 _ A4 n4 c4 (wrP m 2) rfl HA4.out (by have h1:=HL.out;have h2:=HPL.out;have h3:=HN4.out;have h4:=HKey.out;omega) (by omega) ?_);intro v5 w5 ho5 hg5 _;rw [← HN4.out,← List.length_append,← zfT HP.out] at ho5;have HO5:=hide ho5;have HG5:=hide hg5;clear ho5 hg5)
    obtain ⟨A5,c5,rfl,_,_⟩:=zac HO5.out
    go_roundw
    case rel=>exact ⟨3,c5,A5,by omega,rfl,rfl,HO5.out,W4.out.grown HG5.out (by omega) (fun g hg=>(HO4.out.lt g hg).1)⟩
    case measure=>simp [intOf]
  ·cases hp:(zaZ m.k).getD 3 false
   ·have HP:=hide hp
    clear hp
    go_wp2_with (with_reducible refine zan rfl (.tmp 11) (.tmp 12) rfl m.k 3 (by omega) rfl rfl _ HP.out ?_)
    go_roundw
    case rel=>exact ⟨4,c3,B,by omega,by rw [zd9 HP.out],rfl,by rw [zd9 HP.out];exact HO.out,WB.out⟩
    case measure=>simp [intOf]
   ·have HP:=hide hp
    have hf:=(Fr.out.cell 3).trans (show (wfC gc)[3]?=some (.func (.func 242) #[] #[.pointer (some ⟨gc,0,none⟩)]) from rfl)
    clear hp
    go_wp2_with (with_reducible refine zan rfl (.tmp 11) (.tmp 12) rfl m.k 3 (by omega) rfl rfl _ HP.out ?_)
    refine (zuL wr _ m Cr.out).mono ?_
    rintro e w4 ⟨A4,n4,c4,rfl,hc4,ha4,hb4⟩
    have HA4:=hide ha4
    have HO4:=hide (zaw HO.out hb4)
    have W4:=hide (zaa WB.out hb4 (Nat.le_refl _))
    have hs4:=hb4.size
    have HPL:=hide (zgO HM.out (j:=3) (by omega))
    have HN4:=hide ha4.len
    clear ha4 hb4 hf
    go_wp2_with (at_builtin;go_must (refine zah _ rfl (.tmp 17) (.tmp 21) 36 rfl w3.heap.size 5 i0 Tryz.underlying36 hi0 hz0 hz1 hz2 (.slice B (wrK m 3).length c3) (wrK m 3).length (wrK m 3) rfl HO4.out 0 _ A4 n4 c4 (wrP m 3) rfl HA4.out (by have h1:=HL.out;have h2:=HPL.out;have h3:=HN4.out;have h4:=HKey.out;omega) (by omega) ?_);intro v5 w5 ho5 hg5 _;rw [← HN4.out,← List.length_append,← zfT HP.out] at ho5;have HO5:=hide ho5;have HG5:=hide hg5;clear ho5 hg5)
    obtain ⟨A5,c5,rfl,_,_⟩:=zac HO5.out
    go_roundw
    case rel=>exact ⟨4,c5,A5,by omega,rfl,rfl,HO5.out,W4.out.grown HG5.out (by omega) (fun g hg=>(HO4.out.lt g hg).1)⟩
    case measure=>simp [intOf]
  ·cases hp:(zaZ m.k).getD 4 false
   ·have HP:=hide hp
    clear hp
    go_wp2_with (with_reducible refine zan rfl (.tmp 11) (.tmp 12) rfl m.k 4 (by omega) rfl rfl _ HP.out ?_)
    go_roundw
    case rel=>exact ⟨5,c3,B,by omega,by rw [zd9 HP.out],rfl,by rw [zd9 HP.out];exact HO.out,WB.out⟩
    case measure=>simp [intOf]
   ·have HP:=hide hp
    have hf:=(Fr.out.cell 4).trans (show (wfC gc)[4]?=some (.func (.func 243) #[] #[.pointer (some ⟨gc,0,none⟩)]) from rfl)
    clear hp
    go_wp2_with (with_reducible refine zan rfl (.tmp 11) (.tmp 12) rfl m.k 4 (by omega) rfl rfl _ HP.out ?_)
    refine (zuK wr _ m Cr.out).mono ?_
    rintro e w4 ⟨A4,n4,c4,rfl,hc4,ha4,hb4⟩
    have HA4:=hide ha4
    have HO4:=hide (zaw HO.out hb4)
    have W4:=hide (zaa WB.out hb4 (Nat.le_refl _))
    have hs4:=hb4.size
    have HPL:=hide (zgO HM.out (j:=4) (by omega))
    have HN4:=hide ha4.len
    clear ha4 hb4 hf
    go_wp2_with (at_builtin;go_must (refine zah _ rfl (.tmp 17) (.tmp 21) 36 rfl w3.heap.size 5 i0 Tryz.underlying36 hi0 hz0 hz1 hz2 (.slice B (wrK m 4).length c3) (wrK m 4).length (wrK m 4) rfl HO4.out 0 _ A4 n4 c4 (wrP m 4) rfl HA4.out (by have h1:=HL.out;have h2:=HPL.out;have h3:=HN4.out;have h4:=HKey.out;omega) (by omega) ?_);intro v5 w5 ho5 hg5 _;rw [← HN4.out,← List.length_append,← zfT HP.out] at ho5;have HO5:=hide ho5;have HG5:=hide hg5;clear ho5 hg5)
    obtain ⟨A5,c5,rfl,_,_⟩:=zac HO5.out
    go_roundw
    case rel=>exact ⟨5,c5,A5,by omega,rfl,rfl,HO5.out,W4.out.grown HG5.out (by omega) (fun g hg=>(HO4.out.lt g hg).1)⟩
    case measure=>simp [intOf]
  ·cases hp:(zaZ m.k).getD 5 false
   ·have HP:=hide hp
    clear hp
    go_wp2_with (with_reducible refine zan rfl (.tmp 11) (.tmp 12) rfl m.k 5 (by omega) rfl rfl _ HP.out ?_)
    go_roundw
    case rel=>exact ⟨6,c3,B,by omega,by rw [zd9 HP.out],rfl,by rw [zd9 HP.out];exact HO.out,WB.out⟩
    case measure=>simp [intOf]
   ·have HP:=hide hp
    have hf:=(Fr.out.cell 5).trans (show (wfC gc)[5]?=some (.func (.func 244) #[] #[.pointer (some ⟨gc,0,none⟩)]) from rfl)
    clear hp
    go_wp2_with (with_reducible refine zan rfl (.tmp 11) (.tmp 12) rfl m.k 5 (by omega) rfl rfl _ HP.out ?_)
    refine (zuJ wr _ m Cr.out).mono ?_
    rintro e w4 ⟨A4,n4,c4,rfl,hc4,ha4,hb4⟩
    have HA4:=hide ha4
    have HO4:=hide (zaw HO.out hb4)
    have W4:=hide (zaa WB.out hb4 (Nat.le_refl _))
    have hs4:=hb4.size
    have HPL:=hide (zgO HM.out (j:=5) (by omega))
    have HN4:=hide ha4.len
    clear ha4 hb4 hf
    go_wp2_with (at_builtin;go_must (refine zah _ rfl (.tmp 17) (.tmp 21) 36 rfl w3.heap.size 5 i0 Tryz.underlying36 hi0 hz0 hz1 hz2 (.slice B (wrK m 5).length c3) (wrK m 5).length (wrK m 5) rfl HO4.out 0 _ A4 n4 c4 (wrP m 5) rfl HA4.out (by have h1:=HL.out;have h2:=HPL.out;have h3:=HN4.out;have h4:=HKey.out;omega) (by omega) ?_);intro v5 w5 ho5 hg5 _;rw [← HN4.out,← List.length_append,← zfT HP.out] at ho5;have HO5:=hide ho5;have HG5:=hide hg5;clear ho5 hg5)
    obtain ⟨A5,c5,rfl,_,_⟩:=zac HO5.out
    go_roundw
    case rel=>exact ⟨6,c5,A5,by omega,rfl,rfl,HO5.out,W4.out.grown HG5.out (by omega) (fun g hg=>(HO4.out.lt g hg).1)⟩
    case measure=>simp [intOf]
  ·have k0:=(Br.out.cell 0).trans ze7
   have HWV:Hid (((wrK m 6).length:Int)%256=((UInt8.ofNat (wrK m 6).length).toNat:Int)):=hide (by simp)
   obtain ⟨K,hK⟩:∃ K:Nat,m.k=(K:Int):=⟨m.k.toNat,by have:=of_decide_eq_true HK.out;omega⟩
   have hK7:1≤K∧K≤7:=by have:=of_decide_eq_true HK.out;omega
   rw [hK] at k0
   have HKV:Hid (((K:Nat):Int)=((UInt8.ofNat m.k.toNat).toNat:Int)):=hide (by rw [hK,Int.toNat_natCast,zbv (by omega)])
   have HK2:=hide hK
   clear hK
   have HWL:Hid ((zcX m).length=2+(wrK m 6).length):=hide (by unfold zcX zjz;simp;omega)
   have HWE:Hid (zcX m=[UInt8.ofNat m.k.toNat,UInt8.ofNat (wrK m 6).length]++wrK m 6):=hide rfl
   go_wp2_with (at_builtin;go_must (refine zah _ rfl (.tmp 30) (.tmp 31) 36 rfl wr.heap.size 5 i0 Tryz.underlying36 hi0 hz0 hz1 hz2 (.slice (some ⟨wr.heap.size,0,none⟩) 2 2) 2 [UInt8.ofNat m.k.toNat,UInt8.ofNat (wrK m 6).length] rfl (zvF wr _ _ _ _ HKV.out HWV.out) _ _ B (wrK m 6).length c3 (wrK m 6) rfl ((At.own HO.out).alloc (Nat.le_refl _) _) (by have h1:=HL.out;have h4:=HKey.out;omega) (by simp) ?_);intro v5 w5 ho5 hg5 _;have HO5:=hide ho5;have HG5:=hide hg5;clear ho5 hg5)
   go_ret
   refine ⟨_,rfl,?_,?_⟩
   ·rw [HWL.out,HWE.out]
    exact zaq HO5.out (by have:=W3.out.size;omega)
   ·exact zma (W3.out.trans (WB.out.mono (by have:=W3.out.size;omega))) (Nat.le_refl _) _ HG5.out (Nat.le_refl _)
end
end Go.Proofs.YtblnkbfbhlhgkaaGreatDoor
