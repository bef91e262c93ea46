/-
  What withBits, writersOf and its closures of package mroute do, in whatever memory. No condition.
-/
import Derived.Test.YtookpplebikfnaaGreatDoorKSAN
set_option linter.unusedVariables false
set_option linter.unusedSimpArgs false
namespace Go.Proofs.YtookpplebikfnaaGreatDoor
section
set_option maxRecDepth 20000
open Go.RowKit
theorem zvG (w:World) (x:UInt8) (V:Int) (hV:V=(x.toNat:Int)) :
  (w.alloc (.cells #[.int .u8 V] 5)).ownsRow w.heap.size 5 1 (.slice (some ⟨w.heap.size,0,none⟩) 1 1) 1 (bvs [x]):=by
 subst hV
 exact zcd (Blk.new w _ _) (Nat.le_refl _) (Nat.le_refl _) (by decide) rfl rfl
theorem zvF (w:World) (x y:UInt8) (V U:Int) (hV:V=(x.toNat:Int)) (hU:U=(y.toNat:Int)) :
  (w.alloc (.cells #[.int .u8 V,.int .u8 U] 5)).ownsRow w.heap.size 5 1 (.slice (some ⟨w.heap.size,0,none⟩) 2 2) 2 (bvs [x,y]):=by
 subst hV hU
 exact zcd (Blk.new w _ _) (Nat.le_refl _) (Nat.le_refl _) (by decide) rfl rfl
set_option maxHeartbeats 1000000 in
theorem zg8 (w:World) (s:Int) (bs:List UInt8) (hl:bs.length=16) :
  Calls Tryz.prog 186 #[.agg (zan s bs)] w fun e w'=>∃ v,e = .returned v∧w'.ownsRow w.heap.size 5 1 v (zhC s bs).length (bvs (zhC s bs))∧Below w.heap.size w w':=by
 have HB:=hide (Blk.new w 25 (zan s bs))
 have HL:=hide hl
 have hn:=zc2 s hl
 have W0:=hide ((Below.refl w.heap.size w).alloc (Nat.le_refl _) (.cells (zan s bs) 25))
 obtain ⟨i0,hi0,hz0,hz1,hz2⟩:=info_parts zbz
 have HV:Hid ((8*((zav s bs).length:Int))=((UInt8.ofNat (8*(zav s bs).length)).toNat:Int)):=hide (by rw [zbn (by omega)];omega)
 have HP:Hid (zhC s bs=[UInt8.ofNat (8*(zav s bs).length)]++zav s bs):=hide rfl
 have HPL:Hid ((zhC s bs).length=1+(zav s bs).length):=hide (by unfold zhC;simp;omega)
 clear hl
 go_enter Tryz.func186,Tryz.ntmps186
 go_wp2_with (with_reducible refine zaE rfl (.tmp 1) rfl w.heap.size rfl HB.out HL.out ?_)
 refine (zc1 _ s bs HL.out).mono ?_
 rintro e w1 ⟨v,rfl,ho,hb⟩
 obtain ⟨A,c,rfl,_,_⟩:=zad ho
 have HA:=hide (At.own ho)
 have W1:=hide (zaa W0.out hb (Nat.le_refl _))
 have hsz:w.heap.size≤w1.heap.size:=W1.out.size
 clear ho hb
 go_wp2_with (at_builtin;refine zah _ rfl _ _ 36 rfl w1.heap.size 5 i0 Tryz.underlying36 hi0 hz0 hz1 hz2 (.slice (some ⟨w1.heap.size,0,none⟩) 1 1) 1 [UInt8.ofNat (8*(zav s bs).length)] rfl (zvG w1 _ _ HV.out) _ w1.heap.size A _ c _ rfl (HA.out.alloc (Nat.le_refl _) _) (by omega) (by simp) ?_;intro v2 w2 ho2 hg2 ha2;have HO2:=hide ho2;have HG2:=hide hg2;clear ho2 hg2)
 go_ret
 refine ⟨_,rfl,?_,?_⟩
 ·rw [HPL.out,HP.out]
  exact zau HO2.out hsz
 ·exact zlZ W1.out (Nat.le_refl _) _ HG2.out (Nat.le_refl _)
def zfg (w:World) (g:Nat) (m:Mr):Prop:=Blk w g 86 (mroC m)∧m.W
theorem zfg.over {w x:World} {g:Nat} {m:Mr} (h:zfg w g m) {B:Nat} (hb:Below B w x) (hB:g<B):zfg x g m:=⟨h.1.below hb hB,h.2⟩
theorem At.rdM {w:World} {g:Nat} {m:Mr} (h:zfg w g m):At w 0 (g+1) (some ⟨g,1,none⟩) 8 m.rd:=by
 have hr:=mro_rd h.2 h.1
 refine ⟨h.2.rd,fun _=>⟨g,1,rfl,Nat.zero_le _,by omega,fun j u hu=>?_⟩⟩
 exact hr j (bv u) (by unfold bvs;rw [List.getElem?_map,hu];rfl)
def WrOk (w:World) (m:Mr) (j:Nat) (e:Ending) (w':World):Prop :=
 ∃ A n c,e = .returned (.slice A n c)∧n≤c∧At w' 0 w'.heap.size A n (wrP m j)∧Below w.heap.size w w'
theorem zuM (w:World) (g:Nat) (m:Mr) (h:zfg w g m):Calls Tryz.prog 183 #[.pointer (some ⟨g,0,none⟩)] w (WrOk w m 0):=by
 have HA:=hide (At.rdM h)
 have hl:g+1≤w.heap.size:=h.1.lt
 clear h
 go_enter Tryz.func183,Tryz.ntmps183
 go_wp2
 go_ret
 exact ⟨_,_,_,rfl,Nat.le_refl _,HA.out.more (Nat.le_refl _) hl,Below.refl _ _⟩
theorem zuL (w:World) (g:Nat) (m:Mr) (h:zfg w g m):Calls Tryz.prog 184 #[.pointer (some ⟨g,0,none⟩)] w (WrOk w m 1):=by
 have c9:=(h.1.cell 9).trans (zuv h.2)
 clear h
 go_enter Tryz.func184,Tryz.ntmps184
 go_wp2_with fail
 refine (zvC w 0 0 none 0 0 [] (At.nil _ _ _ _) (Nat.zero_le _) (by omega) m.a 4).mono ?_
 rintro e w1 ⟨v,rfl,ho,hb⟩
 obtain ⟨A,c,rfl,hc,_⟩:=zad ho
 have HO:=hide ho
 have HB:=hide hb
 clear ho hb
 go_wp2
 go_ret
 exact ⟨_,_,_,rfl,hc,by rw [← (At.own HO.out).len];exact (At.own HO.out).more (Nat.zero_le _) (Nat.le_refl _),HB.out⟩
theorem zuK (w:World) (g:Nat) (m:Mr) (h:zfg w g m):Calls Tryz.prog 185 #[.pointer (some ⟨g,0,none⟩)] w (WrOk w m 2):=by
 have HS:=hide (zvN h.2 h.1)
 have HL:=hide h.2.sb
 clear h
 go_enter Tryz.func185,Tryz.ntmps185
 go_wp2_with (with_reducible refine zaX rfl (.tmp 2) rfl g 10 rfl HS.out HL.out ?_)
 refine (zg8 w m.ss m.sb HL.out).mono ?_
 rintro e w1 ⟨v,rfl,ho,hb⟩
 obtain ⟨A,c,rfl,hc,_⟩:=zad ho
 have HO:=hide ho
 have HB:=hide hb
 clear ho hb
 go_wp2
 go_ret
 exact ⟨_,_,_,rfl,hc,(At.own HO.out).more (Nat.zero_le _) (Nat.le_refl _),HB.out⟩
theorem zuJ (w:World) (g:Nat) (m:Mr) (h:zfg w g m):Calls Tryz.prog 187 #[.pointer (some ⟨g,0,none⟩)] w (WrOk w m 3):=by
 have HS:=hide (zvO h.2 h.1)
 have HL:=hide h.2.gb
 clear h
 go_enter Tryz.func187,Tryz.ntmps187
 go_wp2_with (with_reducible refine zaX rfl (.tmp 2) rfl g 27 rfl HS.out HL.out ?_)
 refine (zg8 w m.gs m.gb HL.out).mono ?_
 rintro e w1 ⟨v,rfl,ho,hb⟩
 obtain ⟨A,c,rfl,hc,_⟩:=zad ho
 have HO:=hide ho
 have HB:=hide hb
 clear ho hb
 go_wp2
 go_ret
 exact ⟨_,_,_,rfl,hc,(At.own HO.out).more (Nat.zero_le _) (Nat.le_refl _),HB.out⟩
theorem zuH (w:World) (g:Nat) (m:Mr) (h:zfg w g m):Calls Tryz.prog 189 #[.pointer (some ⟨g,0,none⟩)] w (WrOk w m 5):=by
 have HS:=hide (mro_f h.2 h.1)
 have HL:=hide h.2.fb
 clear h
 go_enter Tryz.func189,Tryz.ntmps189
 go_wp2_with (with_reducible refine zaX rfl (.tmp 2) rfl g 44 rfl HS.out HL.out ?_)
 refine (zc1 w m.fs m.fb HL.out).mono ?_
 rintro e w1 ⟨v,rfl,ho,hb⟩
 obtain ⟨A,c,rfl,hc,_⟩:=zad ho
 have HO:=hide ho
 have HB:=hide hb
 clear ho hb
 go_wp2
 go_ret
 exact ⟨_,_,_,rfl,hc,(At.own HO.out).more (Nat.zero_le _) (Nat.le_refl _),HB.out⟩
theorem zj9 (w:World) (s:List UInt8):∃ c w',(convert 9 36 (.string ⟨s.toArray⟩)).run Tryz.prog w = .ok (.slice (some ⟨w.heap.size,0,none⟩) s.length c) w'∧s.length≤c ∧
  At w' w.heap.size w'.heap.size (some ⟨w.heap.size,0,none⟩) s.length s∧Below w.heap.size w w'∧w'.heap.size=w.heap.size+1:=by
 have hr:=run_bytes_of_string (P:=Tryz.prog) w 9 36 5 ⟨s.toArray⟩ Tryz.underlying9 Tryz.underlying36 Tryz.underlying5
 have hz:ByteArray.size ⟨s.toArray⟩=s.length:=by simp [ByteArray.size]
 rw [hz] at hr
 refine ⟨_,_,hr,grownCap_ge _ _ _ _,?_,((zai (Below.refl w.heap.size w))).alloc (by simp) _,by simp⟩
 refine ⟨rfl,fun _=>⟨_,0,rfl,Nat.le_refl _,by simp,fun j u hu=>?_⟩⟩
 have hh:(w.drew.alloc (.cells (bytesRow ⟨s.toArray⟩ (grownCap w s.length 0 5)) 5 ((bytesRow ⟨s.toArray⟩ (grownCap w s.length 0 5)).size,(bytesRow ⟨s.toArray⟩ (grownCap w s.length 0 5)).size+1))).heap[w.heap.size]?=some (.cells (bytesRow ⟨s.toArray⟩ (grownCap w s.length 0 5)) 5 ((bytesRow ⟨s.toArray⟩ (grownCap w s.length 0 5)).size,(bytesRow ⟨s.toArray⟩ (grownCap w s.length 0 5)).size+1)):=heap_alloc_new w.drew _
 rw [cell_of_row _ _ _ _ _ _ hh]
 have hj:j<s.length:=(List.getElem?_eq_some_iff.1 hu).1
 unfold bytesRow
 rw [Nat.zero_add,Array.getElem?_append_left (by simpa using hj)]
 simp [hu,bv]
theorem zeI {ops:Array Oper} {rest:List Oper} {o:Oper} {a:Act} {w:World} {Q:Exit→Act→World→Prop} (hgd:o.guard=none) (x:Operand) (ho:o.op = .convert 9 36 x)
  (s:List UInt8) (hx:a.eval x = .string ⟨s.toArray⟩)
  (hk:∀ c w',s.length≤c→At w' w.heap.size w'.heap.size (some ⟨w.heap.size,0,none⟩) s.length s→Below w.heap.size w w'→wpList Tryz.prog ops Q rest (a.put o.dst (.slice (some ⟨w.heap.size,0,none⟩) s.length c)) w'):wpList Tryz.prog ops Q (o::rest) a w:=by
 obtain ⟨c,w',hr,hc,ha,hb,_⟩:=zj9 w s
 refine wpList_plain hgd fun K hK=>?_
 unfold Oper.wp execOp
 simp only [ho,hx,Sem.run_bind,hr,Result.andThen_ok,Sem.run_pure]
 exact hK _ _ (hk c w' hc ha hb)
theorem zuI (w:World) (g:Nat) (m:Mr) (h:zfg w g m):Calls Tryz.prog 188 #[.pointer (some ⟨g,0,none⟩)] w (WrOk w m 4):=by
 have c61:=(h.1.cell 61).trans (zkq h.2)
 clear h
 go_enter Tryz.func188,Tryz.ntmps188
 go_wp2_with (with_reducible refine zeI rfl (.tmp 3) rfl m.key rfl ?_;intro c w1 hc ha hb;have HA:=hide ha;have HB:=hide hb;clear ha hb)
 go_ret
 exact ⟨_,_,_,rfl,hc,HA.out.more (Nat.zero_le _) (Nat.le_refl _),HB.out⟩
def wfC (g:Nat):Array Value:=#[.func (.func 183) #[] #[.pointer (some ⟨g,0,none⟩)],.func (.func 184) #[] #[.pointer (some ⟨g,0,none⟩)],
 .func (.func 185) #[] #[.pointer (some ⟨g,0,none⟩)],.func (.func 187) #[] #[.pointer (some ⟨g,0,none⟩)],
 .func (.func 188) #[] #[.pointer (some ⟨g,0,none⟩)],.func (.func 189) #[] #[.pointer (some ⟨g,0,none⟩)]]
theorem zvl {fn:Func} {R:Ending→World→Prop} {a:Act} {w:World} {p:Tmp} {g g':Nat} {t:TypeId} (hf:fn.results=#[.cell p 223])
  (hp:a.tmps.getD p undef = .pointer (some ⟨g,0,none⟩)) (h:Blk w g t (wfC g')) (hd:a.defers=[]) (hR:R (.returned (.agg (wfC g'))) w) :
  bodyPost Tryz.prog fn R .ret a w:=by
 refine bodyPost_ret (v:=.agg (wfC g')) ?_ hd hR
 have hp':a.tmps[p]?.getD undef = .pointer (some ⟨g,0,none⟩):=by simpa using hp
 have hl:=run_loadVar_row (P:=Tryz.prog) w g t 223 (wfC g') (0,0) _ h Tryz.underlying223 rfl (by rw [show (wfC g').size=6 from rfl];kernel_rfl)
 simp [results,hf,hp',asAddr,hl]
theorem wf_one (k:Nat):(wfC k).all (·.oneCell')=true:=by simp [wfC,Value.oneCell']
theorem zeP {ops:Array Oper} {rest:List Oper} {o:Oper} {a:Act} {w:World} {Q:Exit→Act→World→Prop} (hgd:o.guard=none) (x y:Operand) (ho:o.op = .store 223 x y)
  (g:Nat) (hx:a.eval x = .pointer (some ⟨g,0,none⟩)) {k:Nat} (hy:a.eval y = .agg (wfC k)) {t:TypeId} {old:Array Value} (h:Blk w g t old) (hold:old.size=6)
  (hk:∀ w',Blk w' g t (wfC k)→w.grownBy w' (some g)→wpList Tryz.prog ops Q rest (a.put o.dst undef) w'):wpList Tryz.prog ops Q (o::rest) a w :=
 wpList_store_row hgd 223 x y ho g (wfC k) hx hy t old h (by rw [show (wfC k).size=6 from rfl];kernel_rfl) (by rw [show (wfC k).size=6 from rfl,hold]) (wf_one k) (hk _ (h.setRow _) (zaK _ _ _))
theorem zjW (w:World) (m:Mr) (hm:m.W):Calls Tryz.prog 173 #[.agg (mroC m)] w fun e w'=>∃ g,e = .returned (.agg (wfC g))∧zfg w' g m∧Below w.heap.size w w':=by
 have HM:=hide hm
 have HB:=hide ((Blk.new w 86 (mroC m)).alloc (.cells #[.nilFunc,.nilFunc,.nilFunc,.nilFunc,.nilFunc,.nilFunc] 223))
 have HN:=hide (zcG w (.cells (mroC m) 86) 223 #[.nilFunc,.nilFunc,.nilFunc,.nilFunc,.nilFunc,.nilFunc])
 have W0:=hide (((Below.refl w.heap.size w).alloc (Nat.le_refl _) (.cells (mroC m) 86)).alloc (by simp) (.cells #[.nilFunc,.nilFunc,.nilFunc,.nilFunc,.nilFunc,.nilFunc] 223))
 clear hm
 go_enter Tryz.func173,Tryz.ntmps173
 go_wp2_with (refine zeP rfl (.tmp 2) (.tmp 9) rfl (w.heap.size+1) rfl (k:=w.heap.size) rfl HN.out rfl ?_;intro w2 hb2 hg2;have HB2:=hide hb2;have HG2:=hide hg2;clear hb2 hg2;refine Hid.out ?_)
 refine hide ?_
 go_wp2
 refine zvl (p:=2) (g:=w.heap.size+1) (t:=223) (g':=w.heap.size) rfl rfl HB2.out rfl ⟨_,rfl,⟨HB.out.grown HG2.out (by simp),HM.out⟩,?_⟩
 exact W0.out.grown HG2.out (by simp;omega) (by simp)
theorem zpM {m:Mr} {j:Nat} (h:(za7 m.k).getD j false=false):wrK m (j+1)=wrK m j:=by rw [wrK,h];simp
theorem zpL {m:Mr} {j:Nat} (h:(za7 m.k).getD j false=true):wrK m (j+1)=wrK m j++wrP m j:=by rw [wrK,h];simp
theorem znh {m:Mr} (w:m.W) {j:Nat} (h:j<6):(wrP m j).length≤17+(if j=4 then m.key.length else 0):=by
 have h1:=zc2 m.ss w.sb
 have h2:=zc2 m.gs w.gb
 have h3:=zc2 m.fs w.fb
 have h4:=w.rd
 have h5:(zhj [] m.a 4).length≤4:=by
  unfold zhj
  split
  ·simp [zb2]
  ·simp
 rcases (show j=0∨j=1∨j=2∨j=3∨j=4∨j=5 by omega) with rfl | rfl | rfl | rfl | rfl | rfl <;> simp [wrP,zhC,List.length_cons] <;> omega
theorem zjX {m:Mr} (w:m.W):∀ j,j≤6→(wrK m j).length≤j*17+(if 4<j then m.key.length else 0)
 | 0,_=>by simp [wrK]
 | j+1,h=>by
  have ih:=zjX w j (by omega)
  have hp:=znh w (j:=j) (by omega)
  cases e:(za7 m.k).getD j false
  ·rw [zpM e]
   split at ih <;> split <;> omega
  ·rw [zpL e,List.length_append]
   split at ih <;> split at hp <;> split <;> omega
theorem zpN {m:Mr} (w:m.W) (j:Nat) (h:j≤6):(wrK m j).length≤102+m.key.length:=by
 have h1:=zjX w j h
 split at h1 <;> omega
theorem zuG {m:Mr} (w:m.W) {j:Nat} (h:j<6):(wrK m j).length+(wrP m j).length≤120+m.key.length:=by
 have h1:=zjX w j (by omega)
 have h2:=znh w h
 split at h1 <;> split at h2 <;> omega
theorem zug (n:Nat):IntKind.u8.wrap (n:Int)=((UInt8.ofNat n).toNat:Int):=by
 simp [IntKind.wrap,IntKind.bits,IntKind.signed]
theorem zhc (w:World) (k:Int) {j:Nat} (hj:j<6):(Instr.index 225 (.agg (nmC k)) (.int .i64 (j:Int))).run Tryz.prog w = .ok (.bool ((za7 k).getD j false)) w:=by
 rcases (show j=0∨j=1∨j=2∨j=3∨j=4∨j=5 by omega) with rfl | rfl | rfl | rfl | rfl | rfl <;> kernel_rfl
theorem zaR {ops:Array Oper} {rest:List Oper} {o:Oper} {a:Act} {w:World} {Q:Exit→Act→World→Prop} (hw:Region.wanted o (yielded ops a.tmps)=true) (x y:Operand) (ho:o.op = .index 225 x y)
  (k:Int) (j:Nat) (hj:j<6) (hx:a.eval x = .agg (nmC k)) (hy:a.eval y = .int .i64 (j:Int)) (b:Bool) (hb:(za7 k).getD j false=b)
  (hk:wpList Tryz.prog ops Q rest (a.put o.dst (.bool b)) w):wpList Tryz.prog ops Q (o::rest) a w:=by
 subst hb
 unfold wpList
 rw [if_pos hw]
 refine .inl ?_
 unfold Oper.wp execOp
 simp only [ho,hx,hy,Sem.run_bind,zhc w k hj,Result.andThen_ok,Sem.run_pure]
 exact hk
theorem zeK {ops:Array Oper} {rest:List Oper} {o:Oper} {a:Act} {w:World} {Q:Exit→Act→World→Prop} {k:Int} {j:Nat} {b:Bool} (hb:(za7 k).getD j false=b) (hw:Region.wanted o (yielded ops a.tmps)=true) (x y:Operand) (ho:o.op = .index 225 x y)
  (hj:j<6) (hx:a.eval x = .agg (nmC k)) (hy:a.eval y = .int .i64 (j:Int)) (hk:wpList Tryz.prog ops Q rest (a.put o.dst (.bool b)) w):wpList Tryz.prog ops Q (o::rest) a w:=zaR hw x y ho k j hj hx hy b hb hk
set_option maxHeartbeats 4000000 in
theorem zhT (w:World) (m:Mr) (hm:m.W) (hkn:kwn m.k=true) (hkey:m.key.length≤140737488351232) (hn:zaL w) :
  Calls Tryz.prog 150 #[.agg (mroC m)] w fun e w'=>∃ v,e = .returned v∧w'.ownsRow w.heap.size 5 1 v (zcL m).length (bvs (zcL m))∧Below w.heap.size w w':=by
 obtain ⟨i0,hi0,hz0,hz1,hz2⟩:=info_parts zbz
 have HM:=hide hm
 have HK:=hide hkn
 have HKey:=hide hkey
 have HB:=hide (Blk.new w 86 (mroC m))
 have W0:=hide ((Below.refl w.heap.size w).alloc (Nat.le_refl _) (.cells (mroC m) 86))
 have HN:=hide (hn.below W0.out)
 clear hm hkn hkey hn
 go_enter Tryz.func150,Tryz.ntmps150
 go_wp2_with (with_reducible refine zay rfl (.tmp 1) rfl w.heap.size rfl HB.out HM.out ?_)
 refine (zjW _ m HM.out).mono ?_
 rintro e w1 ⟨gc,rfl,hc1,hb1⟩
 have C1:=hide hc1
 have B1:=hide (HB.out.over hb1)
 have N1:=hide (HN.out.below hb1)
 have W1:=hide (zaa W0.out hb1 (Nat.le_refl _))
 have NB:=hide (Blk.new w1 223 #[.nilFunc,.nilFunc,.nilFunc,.nilFunc,.nilFunc,.nilFunc])
 clear hc1 hb1
 go_wp2_with (refine zeP rfl (.tmp 4) (.tmp 8) rfl w1.heap.size rfl (k:=gc) rfl NB.out rfl ?_;intro w2 hb2 hg2;have HB2:=hide hb2;have W2:Hid (Below w1.heap.size w1 w2):=hide (((Below.refl _ _).alloc (Nat.le_refl _) _).grown hg2 (by simp) (by simp));clear hb2 hg2;refine Hid.out ?_)
 refine hide ?_
 have B2:=hide (B1.out.over W2.out)
 have C2:=hide (C1.out.over W2.out C1.out.1.lt)
 have N2:=hide (N1.out.below W2.out)
 have k0:=(B2.out.cell 0).trans zeX
 have hs1:=W1.out.size
 have hs2:=W2.out.size
 have hb1lt:=B1.out.lt
 have hc1lt:=C1.out.1.lt
 have W2':=hide (zaa W1.out W2.out (Nat.le_refl _))
 go_wp2_with fail
 refine (zbZ w2 m.k N2.out).mono ?_
 rintro e w3 ⟨rfl,hb3⟩
 have B3:=hide (B2.out.over hb3)
 have C3:=hide (C2.out.over hb3 C2.out.1.lt)
 have F3:=hide (HB2.out.over hb3)
 have W3:=hide (zaa W2'.out hb3 (Nat.le_refl _))
 have hs3:=hb3.size
 have hf2lt:=HB2.out.lt
 clear hb3 k0
 go_wp2_with fail
 go_loopw [3,12] (fun v i wr=>∃ (j c3:Nat) (B:Option Addr),j≤6∧v = .slice B (wrK m j).length c3∧i = .int .i64 j∧wr.ownsRow w3.heap.size 5 1 (.slice B (wrK m j).length c3) (wrK m j).length (bvs (wrK m j))∧Below w3.heap.size w3 wr) (fun _ i _=>6-(intOf i).toNat)
 case atStart=>exact ⟨0,0,none,by omega,rfl,rfl,World.ownsRow_nil _ _ _ _,Below.refl _ _⟩
 case round =>
  obtain ⟨j,c3,B,hj,rfl,rfl,hown,hbel⟩:=hrel
  have HO:=hide hown
  have WB:=hide hbel
  have Br:=hide (B3.out.over hbel)
  have Cr:=hide (C3.out.over hbel C3.out.1.lt)
  have Fr:=hide (F3.out.over hbel)
  have hsr:=hbel.size
  have HL:=hide (zpN HM.out j hj)
  clear hown hbel
  by_cases h6:j=6
  ·subst h6
   have k0:=(Br.out.cell 0).trans zeX
   have HWV:Hid (((wrK m 6).length:Int)%256=((UInt8.ofNat (wrK m 6).length).toNat:Int)):=hide (by simp)
   obtain ⟨K,hK⟩:∃ K:Nat,m.k=(K:Int):=⟨m.k.toNat,by have:=of_decide_eq_true HK.out;omega⟩
   have hK7:1≤K∧K≤7:=by have:=of_decide_eq_true HK.out;omega
   rw [hK] at k0
   have HKV:Hid (((K:Nat):Int)=((UInt8.ofNat m.k.toNat).toNat:Int)):=hide (by rw [hK,Int.toNat_natCast,zbn (by omega)])
   have HK2:=hide hK
   clear hK
   have HWL:Hid ((zcL m).length=2+(wrK m 6).length):=hide (by unfold zcL zjp;simp;omega)
   have HWE:Hid (zcL m=[UInt8.ofNat m.k.toNat,UInt8.ofNat (wrK m 6).length]++wrK m 6):=hide rfl
   go_wp2_with (at_builtin;go_must (refine zah _ rfl (.tmp 30) (.tmp 31) 36 rfl wr.heap.size 5 i0 Tryz.underlying36 hi0 hz0 hz1 hz2 (.slice (some ⟨wr.heap.size,0,none⟩) 2 2) 2 [UInt8.ofNat m.k.toNat,UInt8.ofNat (wrK m 6).length] rfl (zvF wr _ _ _ _ HKV.out HWV.out) _ _ B (wrK m 6).length c3 (wrK m 6) rfl ((At.own HO.out).alloc (Nat.le_refl _) _) (by have h1:=HL.out;have h4:=HKey.out;omega) (by simp) ?_);intro v5 w5 ho5 hg5 _;have HO5:=hide ho5;have HG5:=hide hg5;clear ho5 hg5)
   go_ret
   refine ⟨_,rfl,?_,?_⟩
   ·rw [HWL.out,HWE.out]
    exact zau HO5.out (by have:=W3.out.size;omega)
   ·exact zlZ (W3.out.trans (WB.out.mono (by have:=W3.out.size;omega))) (Nat.le_refl _) _ HG5.out (Nat.le_refl _)
  ·have hjI:(j:Int)<6:=by omega
   cases hp:(za7 m.k).getD j false
   ·have HP:=hide hp
    clear hp
    go_wp2_with (with_reducible refine zaR rfl (.tmp 11) (.tmp 12) rfl m.k j (by omega) rfl rfl _ HP.out ?_)
    go_roundw
    case rel=>exact ⟨j+1,c3,B,by omega,by rw [zpM HP.out],by go_num,by rw [zpM HP.out];exact HO.out,WB.out⟩
    case measure=>simp [intOf];omega
   ·have HP:=hide hp
    have HPL:=hide (zuG HM.out (j:=j) (by omega))
    have hf0:=(Fr.out.cell 0).trans (show (wfC gc)[0]?=some (.func (.func 183) #[] #[.pointer (some ⟨gc,0,none⟩)]) from rfl)
    have hf1:=(Fr.out.cell 1).trans (show (wfC gc)[1]?=some (.func (.func 184) #[] #[.pointer (some ⟨gc,0,none⟩)]) from rfl)
    have hf2:=(Fr.out.cell 2).trans (show (wfC gc)[2]?=some (.func (.func 185) #[] #[.pointer (some ⟨gc,0,none⟩)]) from rfl)
    have hf3:=(Fr.out.cell 3).trans (show (wfC gc)[3]?=some (.func (.func 187) #[] #[.pointer (some ⟨gc,0,none⟩)]) from rfl)
    have hf4:=(Fr.out.cell 4).trans (show (wfC gc)[4]?=some (.func (.func 188) #[] #[.pointer (some ⟨gc,0,none⟩)]) from rfl)
    have hf5:=(Fr.out.cell 5).trans (show (wfC gc)[5]?=some (.func (.func 189) #[] #[.pointer (some ⟨gc,0,none⟩)]) from rfl)
    clear hp
    rcases (show j=0∨j=1∨j=2∨j=3∨j=4∨j=5 by omega) with rfl | rfl | rfl | rfl | rfl | rfl
    all_goals
     clear h6 hjI hj
     go_wp2_with (with_reducible refine zeK HP.out rfl (.tmp 11) (.tmp 12) rfl (by omega) rfl rfl ?_)
     first
      | refine (zuM wr _ m Cr.out).mono ?_
      | refine (zuL wr _ m Cr.out).mono ?_
      | refine (zuK wr _ m Cr.out).mono ?_
      | refine (zuJ wr _ m Cr.out).mono ?_
      | refine (zuI wr _ m Cr.out).mono ?_
      | refine (zuH wr _ m Cr.out).mono ?_
     rintro e w4 ⟨A4,n4,c4,rfl,hc4,ha4,hb4⟩
     have HA4:=hide ha4
     have HO4:=hide (zaS HO.out hb4)
     have W4:=hide (zaa WB.out hb4 (Nat.le_refl _))
     have hs4:=hb4.size
     have HN4:=hide ha4.len
     clear ha4 hb4 hf0 hf1 hf2 hf3 hf4 hf5
     go_wp2_with (at_builtin;go_must (refine zah _ rfl (.tmp 17) (.tmp 21) 36 rfl w3.heap.size 5 i0 Tryz.underlying36 hi0 hz0 hz1 hz2 _ _ _ rfl HO4.out 0 _ A4 n4 c4 _ rfl HA4.out (by have h1:=HL.out;have h2:=HPL.out;have h3:=HN4.out;have h4:=HKey.out;omega) (by omega) ?_);intro v5 w5 ho5 hg5 _;rw [← HN4.out,← List.length_append,← zpL HP.out] at ho5;have HO5:=hide ho5;have HG5:=hide hg5;clear ho5 hg5)
     obtain ⟨A5,c5,rfl,_,_⟩:=zad HO5.out
     go_roundw
     case rel=>refine ⟨_,c5,A5,?_,?_,?_,HO5.out,W4.out.grown HG5.out (by omega) (fun g hg=>(HO4.out.lt g hg).1)⟩ <;> first | omega | rfl | go_num
     case measure=>simp [intOf]
end
end Go.Proofs.YtookpplebikfnaaGreatDoor
