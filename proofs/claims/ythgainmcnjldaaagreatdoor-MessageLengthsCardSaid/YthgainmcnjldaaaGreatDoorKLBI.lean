/-
  Which errors the body of an update may have, how long it is, how great an update with few of all is; a Note of zeros loaded and built. No condition.
  Whether any message is right, and how it is written: Right, Bytes of package message, whatever it holds. The conditions: it fits memory, the library's tables hold what their texts lay.
  How any message is written, and whether it is short: Bytes of package message, the statements' Few, whatever it holds. The conditions: it fits memory, the library's tables hold what their texts lay.
  What the document says of any head: its Head of package vineryref11, in whatever memory; it answers what the program's does. No condition.
  MessageLengths, walked: it returns true, whatever message and whatever bytes come in; what was there stays as it was. The conditions: they fit memory, the library's tables hold what their texts lay.
-/
import Derived.Test.YthgainmcnjldaaaGreatDoorKLBH
set_option linter.unusedVariables false
set_option linter.unusedSimpArgs false
namespace Go.Proofs.YthgainmcnjldaaaGreatDoor
section
open Go.RowKit
theorem zqa {k:Int} {v:List UInt8} (hk:k=14∨k=15):za0 ⟨128,k,v⟩=0∨za0 ⟨128,k,v⟩=2:=by
 have h1:¬ ((128:Int)<0∨(255:Int)<128∨zcA (128:Int).toNat=true∨k<0∨255<k):=by
  have h2:zcA (128:Int).toNat=false:=by decide
  rintro (h | h | h | h | h)
  ·omega
  ·omega
  ·rw [h2] at h;cases h
  ·omega
  ·omega
 unfold za0
 rw [if_neg h1]
 show (if 4096<v.length then (2:Int) else 0)=0∨(if 4096<v.length then (2:Int) else 0)=2
 split
 ·exact .inr rfl
 ·exact .inl rfl
theorem zqy (u:Up):zeA (zbc u)=0∨zeA (zbc u)=2:=by
 unfold zeA
 split
 ·exact .inr rfl
 ·refine ziu fun x hx=>?_
  rw [zmc] at hx
  rcases List.mem_append.1 hx with hx | hx
  ·obtain ⟨i,_,rfl⟩:=List.mem_map.1 hx
   exact zrP i
  ·unfold rtsU at hx
   rcases List.mem_append.1 hx with hx | hx
   ·obtain ⟨t,_,rfl⟩:=List.mem_map.1 hx
    exact zqa (.inl rfl)
   ·obtain ⟨t,_,rfl⟩:=List.mem_map.1 hx
    exact zqa (.inr rfl)
theorem zlZ (u:Up):zdu u=0∨zdu u=2∨(zdu u=1∧zck u=false):=by
 unfold zdu
 split
 ·rename_i h;exact .inr (.inr ⟨rfl,h⟩)
 ·split
  ·rename_i h
   rcases zqy u with h1 | h1
   ·exact absurd h1 h
   ·exact .inr (.inl h1)
  ·split
   ·exact .inr (.inl rfl)
   ·exact .inl rfl
theorem zp2 {u:UpP} (h:zeB u=true):fewA u.at_=true∧ze9 u.rn u.re=true∧ze9 u.nn u.ne=true:=by
 unfold zeB at h
 simp only [Bool.and_eq_true] at h
 exact h
theorem zmR {p:AtP} (h:fewA p=true):Fit9 p:=by
 obtain ⟨f1,f2,f3,f4,f5,f6⟩:=znU h
 exact ⟨by omega,fun x hx=>by have:=f1 x hx;omega,by omega,by omega,by omega⟩
theorem zrW {u:UpP} (h:zeB u=true):FitU u∧FitS u:=by
 obtain ⟨h1,h2,h3⟩:=zp2 h
 obtain ⟨r1,r2⟩:=zhu h2
 obtain ⟨n1,n2⟩:=zhu h3
 have ft:∀ x:TbP,zdF x=true→FitT x:=fun x hx=>by
  obtain ⟨a1,a2,a3⟩:=zhv hx
  exact ⟨by omega,by omega,fun m hm=>by have:=a3 m hm;omega⟩
 have fs:∀ x:TbP,zdF x=true→x.mn≤1000000000∧x.un≤1000000000:=fun x hx=>by
  obtain ⟨a1,a2,_⟩:=zhv hx
  exact ⟨by omega,by omega⟩
 exact ⟨⟨fun _=>zmR h1,fun x hx=>ft x (r1 x hx),fun x hx=>ft x (n1 x hx)⟩,⟨zmR h1,by omega,by omega,fun x hx=>fs x (r1 x hx),fun x hx=>fs x (n1 x hx)⟩⟩
theorem ziA (u:Up):(ziy u).length=4+(ze6 (zbc u)).length:=by
 unfold ziy
 simp only [List.length_cons,List.length_append,zaW]
 omega
theorem zpg {u:Up} (h:zdu u=0):(zd6 u).length≤4077:=by
 obtain ⟨_,_,h3,h4⟩:=zit h
 rw [h4,ziA]
 omega
section
variable {ops:Array Oper} {rest:List Oper} {o:Oper} {a:Act} {w:World} {Q:Exit→Act→World→Prop}
end
end
section
open Go.RowKit
set_option maxRecDepth 20000 in
set_option maxHeartbeats 1000000 in
theorem zj4 (w:World) (k:Int) (O U N F:List Value) (hm:MeOk O U N F) (hk:¬ (k=1∨k=2∨k=3∨k=4∨k=5)) :
  Calls Tryz.prog 26 #[.agg (meC k O U N F)] w fun e w'=>e = .returned (.bool false)∧Below w.heap.size w w':=by
 have B0:=hide (Blk.new w 53 (meC k O U N F)).drew
 have W0:=hide (zak ((Below.refl w.heap.size w).alloc (Nat.le_refl _) (.cells (meC k O U N F) 53)))
 have HM:=hide hm
 have q1:(k==1)=false:=beq_eq_false_iff_ne.2 (by omega)
 have q2:(k==2)=false:=beq_eq_false_iff_ne.2 (by omega)
 have q3:(k==3)=false:=beq_eq_false_iff_ne.2 (by omega)
 have q4:(k==4)=false:=beq_eq_false_iff_ne.2 (by omega)
 have q5:(k==5)=false:=beq_eq_false_iff_ne.2 (by omega)
 have K:∀ z,Blk z w.heap.size 53 (meC k O U N F)→z.cell? ⟨w.heap.size,0,none⟩=some (.int .i64 k)∧True∧True∧True∧True∧True:=fun z h=>⟨(zaQ HM.out h).1,trivial,trivial,trivial,trivial,trivial⟩
 clear hm hk
 go_enter Tryz.func26,Tryz.ntmps26
 go_wp2_with fail
 refine wp_region_held_drew (S:=fun z=>Blk z w.heap.size 53 (meC k O U N F)) (by kernel_rfl) B0.out (fun hHeld=>?_)
 refine rgV 0 (.agg (meC k O U N F)) (fun w' hSw=>zav (.tmp 1) rfl w.heap.size rfl HM.out hSw) ?_
 repeat refine rgA K ?_
 have W1:=hide W0.out
 have hsz:(w.alloc (.cells (meC k O U N F) 53)).drew.heap.size=w.heap.size+1:=by simp
 generalize (w.alloc (.cells (meC k O U N F) 53)).drew=wd at *
 have v3:=Blk.new wd 53 (zMe 0)
 rw [hsz] at v3
 have V3:=hide v3
 clear v3
 refine rgM (fun hHeld=>?_)
 have hz:(meC k O U N F).size=53:=zct HM.out
 have G3:=hide (zal (meC k O U N F).toList 0 _ _ (zae (wd.alloc (.cells (zMe 0) 53)) (some (w.heap.size+1))))
 have hSt:Blk ((wd.alloc (.cells (zMe 0) 53)).setCells (w.heap.size+1) 0 (meC k O U N F).toList) w.heap.size 53 (meC k O U N F):=hHeld.grown G3.out (by intro e;injection e;omega)
 refine zaF (i:=5) rfl (by kernel_rfl) (by rfl) (zaM 53 (.tmp 3) (.tmp 5) rfl (w.heap.size+1) rfl (meC k O U N F) rfl (by rw [hz];show _=some 53;kernel_rfl) (zdD HM.out) V3.out (by rw [hz];rfl)) hSt (fun hHeld=>?_)
 have V4:=hide (zcv V3.out (show (zMe 0).size=(meC k O U N F).size by rw [hz];rfl))
 have W2:=hide ((W1.out.alloc (by omega) (.cells (zMe 0) 53)).grown G3.out (by simp;omega) (fun q hq=>by injection hq with hq;omega))
 have S2:=hide hHeld
 clear V3 W1 W0 hSt G3 B0
 generalize ((wd.alloc (.cells (zMe 0) 53)).setCells (w.heap.size+1) 0 (meC k O U N F).toList)=w3 at *
 refine rgN ?_
 repeat refine rgA (F:=fun _=>True) (fun _ _=>trivial) ?_
 refine wpAnyH_done (by kernel_rfl) ?_ _
 have k0:=(K w3 S2.out).1
 have hHZ:=hide hz
 clear hz hHeld K
 go_wp2_with fail
 go_ret
 exact ⟨rfl,W2.out⟩
def zqb (u:Up):Bool:=zeD u zeL.up||zeD u zU11.up
def zmt (u:Up):Bool:=zeD u zU11.up||(zqb u&&zqb zU11.up)
theorem zh9 (w:World) (lo hi:Nat) (u:UpP) (h:UpAt w lo hi u) (hh:hi≤w.heap.size) (hf:FitS u) :
  Calls Tryz.prog 56 #[.agg (updL u).toArray] w fun e w'=>e = .returned (.bool (zqb u.up))∧Below w.heap.size w w':=by
 refine zou w (updL u) (zdx h.ob) (updC zeL) (zeD u.up zeL.up) (zeD u.up zU11.up) (fun z _=>zm4 z) (fun z hz=>?_) (fun z hz=>?_)
 ·exact zfh z lo hi z.heap.size z.heap.size u zeL (h.below (hz.mono hh)) (zr5 _ _ _) (Nat.le_trans hh hz.size) (Nat.le_refl _) hf
 ·rw [← zn6]
  exact zfh z lo hi z.heap.size z.heap.size u zU11 (h.below (hz.mono hh)) (zfI _ _ _) (Nat.le_trans hh hz.size) (Nat.le_refl _) hf
theorem znc (w:World) (lo hi:Nat) (u:UpP) (h:UpAt w lo hi u) (hh:hi≤w.heap.size) (hf:FitS u) :
  Calls Tryz.prog 32 #[.agg (updL u).toArray,.agg zUpL.toArray] w fun e w'=>e = .returned (.bool (zmt u.up))∧Below w.heap.size w w':=by
 refine zoG w (updL u) zUpL (zdx h.ob) rfl (zeD u.up zU11.up) (zqb u.up) (zqb zU11.up) (fun z hz=>?_) (fun z hz=>zh9 z lo hi u (h.below (hz.mono hh)) (Nat.le_trans hh hz.size) hf) (fun z _=>?_)
 ·rw [← zn6]
  exact zfh z lo hi z.heap.size z.heap.size u zU11 (h.below (hz.mono hh)) (zfI _ _ _) (Nat.le_trans hh hz.size) (Nat.le_refl _) hf
 ·have:=zh9 z z.heap.size z.heap.size zU11 (zfI _ _ _) (Nat.le_refl _) ziH
  rw [zn5] at this
  exact this
structure MeP where
 k:Int
 o:OpP
 u:UpP
 n:NoP
 f:Int × Int
def MeP.C (m:MeP):Array Value:=meC m.k (opL m.o) (updL m.u) (noL m.n) (famL m.f)
structure MeAt (w:World) (lo hi:Nat) (m:MeP):Prop where
 o:OpAt w lo hi m.o
 u:UpAt w lo hi m.u
 n:NoAt w lo hi m.n
theorem MeAt.below {w w':World} {lo hi:Nat} {m:MeP} (h:MeAt w lo hi m) (hb:Below hi w w'):MeAt w' lo hi m:=⟨h.o.below hb,h.u.below hb,h.n.below hb⟩
theorem MeAt.ok {w:World} {lo hi:Nat} {m:MeP} (h:MeAt w lo hi m):MeOk (opL m.o) (updL m.u) (noL m.n) (famL m.f) :=
 zks (zfZ h.o.ib) (zdx h.u.ob) rfl rfl (ze2 _) (zem _) (zc4 (zhk _)) (zc4 (zfx _))
structure zt4 (m:MeP):Prop where
 o:m.o.fn≤100000000000000
 u:FitU m.u
 s:FitS m.u
def zdc (x:OpP) (u:UpP) (p:NoP) (f:Int × Int):Bool:=decide (f=(0,0))&&(zd4 x op0&&(zmt u.up&&zg7 p (no0 0 0)))
theorem zjU (w:World) (lo hi:Nat) (k:Int) (x:OpP) (u:UpP) (p:NoP) (f:Int × Int) (hx:OpAt w lo hi x) (hu:UpAt w lo hi u) (hp:NoAt w lo hi p) (hh:hi≤w.heap.size) (hn:x.fn≤100000000000000) (hf:FitS u) :
  Calls Tryz.prog 16 #[.agg (meC k (opL x) (updL u) (noL p) (famL f)),.agg (zMe k)] w fun e w'=>e = .returned (.bool (zdc x u p f))∧Below w.heap.size w w':=by
 have h:=zkr w lo hi w.heap.size w.heap.size k k f (0,0) x op0 (updL u) zUpL p (no0 0 0) (zmt u.up) (zks (zfZ hx.ib) (zdx hu.ob) rfl rfl (ze2 _) (zem _) (zc4 (zhk _)) (zc4 (zfx _))) zh7 hx (zkk _ _ _) hp (zmI _ _ _ _ _) hh (Nat.le_refl _) hn
  (fun z hz=>znc z lo hi u (hu.below (hz.mono hh)) (Nat.le_trans hh hz.size) hf)
 have e:zid k k f (0,0) x op0 (zmt u.up) p (no0 0 0)=zdc x u p f:=by
  unfold zid zdc
  rw [beq_self_eq_true,Bool.true_and]
 rw [e] at h
 exact h
def zeZ (m:MeP):Bool :=
 if m.k=1 then zbz m.o.op&&zdc op0 m.u m.n m.f
 else if m.k=2 then zck m.u.up&&zdc m.o zU11 m.n m.f
 else if m.k=3 then zdz m.n.c m.n.s m.n.dl&&zdc m.o m.u (no0 0 0) m.f
 else if m.k=4 then zdc m.o m.u m.n m.f
 else if m.k=5 then kF m.f&&zdc m.o m.u m.n (0,0)
 else false
theorem znE (w:World) (lo hi:Nat) (m:MeP) (h:MeAt w lo hi m) (hh:hi≤w.heap.size) (hf:zt4 m) (hN:zaK w) :
  Calls Tryz.prog 26 #[.agg m.C] w fun e w'=>e = .returned (.bool (zeZ m))∧Below w.heap.size w w':=by
 obtain ⟨k,x,u,p,f⟩:=m
 have hok:=h.ok
 obtain ⟨hx,hu,hp⟩:=h
 unfold MeP.C zeZ
 dsimp only at *
 have rest:∀ (z:World) (k:Int) (x':OpP) (u':UpP) (p':NoP) (f':Int × Int),Below w.heap.size w z→OpAt w lo hi x'→UpAt w lo hi u'→NoAt w lo hi p'→x'.fn≤100000000000000→FitS u' →
   Calls Tryz.prog 16 #[.agg (meC k (opL x') (updL u') (noL p') (famL f')),.agg (zMe k)] z fun e z'=>e = .returned (.bool (zdc x' u' p' f'))∧Below z.heap.size z z' :=
  fun z k x' u' p' f' hz h1 h2 h3 h4 h5=>zjU z lo hi k x' u' p' f' (h1.below (hz.mono hh)) (h2.below (hz.mono hh)) (h3.below (hz.mono hh)) (Nat.le_trans hh hz.size) h4 h5
 by_cases h1:k=1
 ·subst h1
  rw [if_pos rfl]
  refine zoX w (opL x) (opL x) (updL u) (noL p) (famL f) hok ⟨rfl,hok.u,hok.n,hok.f,?_⟩ (zbz x.op) (zdc op0 u p f) (fun z hz=>zfm z lo hi x (hx.below (hz.mono hh)) (Nat.le_trans hh hz.size) hf.o) (fun z hz=>?_)
  ·exact (zks rfl hok.u hok.n hok.f zn7 (zem _) (zc4 (zhk _)) (zc4 (zfx _))).one
  ·rw [← op0_L]
   exact rest z 1 op0 u p f hz (zkk _ _ _) hu hp (Nat.zero_le _) hf.s
 rw [if_neg h1]
 by_cases h2:k=2
 ·subst h2
  rw [if_pos rfl]
  refine zs8 w (updL u) (opL x) (updL u) (noL p) (famL f) hok (zks hok.o rfl hok.n hok.f (ze2 _) ziG (zc4 (zhk _)) (zc4 (zfx _))) (zck u.up) (zdc x zU11 p f) (fun z hz=>zie z lo hi u (hu.below (hz.mono hh)) (Nat.le_trans hh hz.size) hf.u (hN.below hz)) (fun z hz=>?_)
  rw [← zn5]
  exact rest z 2 x zU11 p f hz hx (zfI _ _ _) hp hf.o ziH
 rw [if_neg h2]
 by_cases h3:k=3
 ·subst h3
  rw [if_pos rfl]
  refine zs7 w (noL p) (opL x) (updL u) (noL p) (famL f) hok (zks hok.o hok.u rfl hok.f (ze2 _) (zem _) ziI (zc4 (zfx _))) (zdz p.c p.s p.dl) (zdc x u (no0 0 0) f) (fun z hz=>ziW z lo hi p (hp.below (hz.mono hh)) (Nat.le_trans hh hz.size)) (fun z hz=>?_)
  exact rest z 3 x u (no0 0 0) f hz hx hu (zmI _ _ _ _ _) hf.o hf.s
 rw [if_neg h3]
 by_cases h4:k=4
 ·subst h4
  rw [if_pos rfl]
  exact zlo w (opL x) (updL u) (noL p) (famL f) hok (zdc x u p f) (fun z hz=>rest z 4 x u p f hz hx hu hp hf.o hf.s)
 rw [if_neg h4]
 by_cases h5:k=5
 ·subst h5
  rw [if_pos rfl]
  refine zs6 w (famL f) (opL x) (updL u) (noL p) (famL f) hok (zks hok.o hok.u hok.n rfl (ze2 _) (zem _) (zc4 (zhk _)) ziJ) (kF f) (zdc x u p (0,0)) (fun z hz=>zev z f) (fun z hz=>?_)
  exact rest z 5 x u p (0,0) hz hx hu hp hf.o hf.s
 rw [if_neg h5]
 exact zj4 w k (opL x) (updL u) (noL p) (famL f) hok (by omega)
end
section
set_option maxRecDepth 20000
set_option maxHeartbeats 1000000
open Go.RowKit
theorem zkt (w:World) (lo hi:Nat) (u:UpP) (O N F:List Value) (hm:MeOk O (updL u) N F) (h:UpAt w lo hi u) (hh:hi≤w.heap.size) (hf:FitU u) (hN:zaK w) (hK:zfd w) :
  Calls Tryz.prog 27 #[.agg (meC 2 O (updL u) N F)] w fun e w'=>∃ (A:Option Addr) (c:Nat),e = .returned (.tuple #[.slice A (zd6 u.up).length c,.int .i64 (zdu u.up)])∧At w' w.heap.size w'.heap.size A (zd6 u.up).length (zd6 u.up)∧(zd6 u.up).length≤c∧Below w.heap.size w w':=by
 have B0:=Blk.new w 53 (meC 2 O (updL u) N F)
 obtain ⟨r0,_,r2,_,_⟩:=zaQ hm B0
 have R2:=hide r2
 have HUL:=hide hm.u
 have W0:=hide ((Below.refl w.heap.size w).alloc (Nat.le_refl _) (.cells (meC 2 O (updL u) N F) 53))
 have HO:=hide (zop (w.alloc (.cells (meC 2 O (updL u) N F) 53)) lo hi u (h.below (W0.out.mono hh)) (Nat.le_trans hh W0.out.size) hf (hN.below W0.out) (hK.below W0.out))
 obtain ⟨B,hB⟩:∃ b,zd6 u.up=b:=⟨_,rfl⟩
 obtain ⟨E,hE⟩:∃ e,zdu u.up=e:=⟨_,rfl⟩
 unfold zjH at HO
 rw [hB,hE] at HO ⊢
 clear B0 r2 h hh hf hN hK hB hE
 go_enter Tryz.func27,Tryz.ntmps27
 go_wp2_with (with_reducible refine zab rfl (zaI (.tmp 13) rfl w.heap.size 22 rfl R2.out HUL.out) ?_)
 refine HO.out.mono ?_
 rintro e w1 ⟨v,rfl,hown,hb⟩
 obtain ⟨A1,c1,rfl,hc1,_⟩:=zac hown
 have OW:=hide ((At.own hown).more (lo':=w.heap.size) (hi':=w1.heap.size) (by simp) (Nat.le_refl _))
 have WB:=hide (zaa W0.out hb (Nat.le_refl _))
 clear hown hb HO
 go_wp2_with fail
 go_ret2
 exact ⟨A1,c1,rfl,OW.out,hc1,WB.out⟩
theorem zlL (w:World) (k:Int) (O U N F:List Value) (hm:MeOk O U N F)
  (hR:Calls Tryz.prog 26 #[.agg (meC k O U N F)] (w.alloc (.cells (meC k O U N F) 53)) fun e w'=>e = .returned (.bool true)∧Below (w.alloc (.cells (meC k O U N F) 53)).heap.size (w.alloc (.cells (meC k O U N F) 53)) w')
  (hB:∀ x,Below w.heap.size w x→Calls Tryz.prog 27 #[.agg (meC k O U N F)] x fun e w'=>∃ v,e = .returned (.tuple #[v,.int .i64 2])∧Below x.heap.size x w') :
  Calls Tryz.prog 13 #[.agg (meC k O U N F)] w fun e w'=>e = .returned (.tuple #[.slice none 0 0,.int .i64 2])∧Below w.heap.size w w':=by
 have B0:=hide (Blk.new w 53 (meC k O U N F))
 have W0:=hide ((Below.refl w.heap.size w).alloc (Nat.le_refl _) (.cells (meC k O U N F) 53))
 have HM:=hide hm
 have HR:=hide hR
 have HB:=hide hB
 clear hm hR hB
 go_enter Tryz.func13,Tryz.ntmps13
 go_wp2_with (with_reducible refine zab rfl (zav (.tmp 1) rfl w.heap.size rfl HM.out B0.out) ?_)
 refine HR.out.mono ?_
 rintro e w1 ⟨rfl,hb⟩
 have WB:=hide (zaa W0.out hb (Nat.le_refl _))
 have B1:=hide (B0.out.over hb)
 clear hb HR B0 W0
 go_wp2_with (with_reducible refine zab rfl (zav (.tmp 1) rfl w.heap.size rfl HM.out B1.out) ?_)
 refine (HB.out w1 WB.out).mono ?_
 rintro e w2 ⟨v,rfl,hb⟩
 have W2:=hide (WB.out.trans (hb.mono WB.out.size))
 clear hb HB WB B1
 go_wp2_with fail
 go_ret2
 exact ⟨rfl,W2.out⟩
def zbF (m:MeP):List UInt8 :=
 if m.k=1 then opB m.o.op else if m.k=2 then zd6 m.u.up else if m.k=3 then [UInt8.ofNat m.n.c.toNat,UInt8.ofNat m.n.s.toNat]++m.n.dl else if m.k=5 then famB m.f else []
def zhA (m:MeP):Int:=if zeZ m=false then 1 else if m.k=2 then zdu m.u.up else 0
def ziF (w:World) (m:MeP) (e:Ending) (w':World):Prop :=
 (zhA m≠0∧e = .returned (.tuple #[.slice none 0 0,.int .i64 (zhA m)])∧Below w.heap.size w w') ∨
 (zhA m=0∧∃ v,e = .returned (.tuple #[v,.int .i64 0])∧w'.ownsRow w.heap.size 5 1 v (19+(zbF m).length) (bvs (zc0 m.k (zbF m).length++zbF m))∧Below w.heap.size w w')
theorem zge {m:MeP} (h:zeZ m=true):(m.k=1∧zbz m.o.op=true)∨(m.k=2∧zck m.u.up=true)∨(m.k=3∧zdz m.n.c m.n.s m.n.dl=true)∨m.k=4∨(m.k=5∧kF m.f=true):=by
 unfold zeZ at h
 split at h
 ·rename_i hk;exact .inl ⟨hk,(Bool.and_eq_true_iff.1 h).1⟩
 split at h
 ·rename_i hk;exact .inr (.inl ⟨hk,(Bool.and_eq_true_iff.1 h).1⟩)
 split at h
 ·rename_i hk;exact .inr (.inr (.inl ⟨hk,(Bool.and_eq_true_iff.1 h).1⟩))
 split at h
 ·rename_i hk;exact .inr (.inr (.inr (.inl hk)))
 split at h
 ·rename_i hk;exact .inr (.inr (.inr (.inr ⟨hk,(Bool.and_eq_true_iff.1 h).1⟩)))
 ·cases h
theorem zfn {c s:Int} {d:List UInt8} (h:zdz c s d=true):(0≤c∧c≤255)∧(0≤s∧s≤255)∧d.length≤4075:=by
 unfold zdz at h
 simpa using h
theorem zqn {c:Int} (h:0≤c∧c≤255):c=((UInt8.ofNat c.toNat).toNat:Int):=by
 have:(UInt8.ofNat c.toNat).toNat=c.toNat:=by simp;omega
 omega
theorem ziz {m:MeP} (hi:m.o.ib.length=16) (h:zhA m=0):zde m.k≤19+((zbF m).length:Int)∧19+((zbF m).length:Int)≤zez m.k∧(zbF m).length≤4077∧1≤m.k∧m.k≤5:=by
 unfold zhA at h
 cases hr:zeZ m
 ·rw [hr,if_pos rfl] at h;cases h
 rw [hr,if_neg (by decide)] at h
 rcases zge hr with ⟨hk,h1⟩ | ⟨hk,h1⟩ | ⟨hk,h1⟩ | hk | ⟨hk,h1⟩
 ·have hb:zbF m=opB m.o.op:=by unfold zbF;rw [if_pos hk]
  obtain ⟨_,_,h2,h3⟩:=zlC (o:=m.o.op) hi h1
  rw [hb,hk]
  have e1:zde 1=29:=rfl
  have e2:zez 1=4096:=rfl
  omega
 ·rw [if_pos hk] at h
  have hb:zbF m=zd6 m.u.up:=by unfold zbF;rw [if_neg (by omega),if_pos hk]
  have h2:=zpg h
  have h3:4≤(zd6 m.u.up).length:=by
   rw [(zit h).2.2.2,ziA];omega
  rw [hb,hk]
  have e1:zde 2=23:=rfl
  have e2:zez 2=4096:=rfl
  omega
 ·have hb:(zbF m).length=2+m.n.dl.length:=by
   unfold zbF
   rw [if_neg (by omega),if_neg (by omega),if_pos hk]
   simp
   omega
  have h2:=(zfn h1).2.2
  rw [hb,hk]
  have e1:zde 3=21:=rfl
  have e2:zez 3=4096:=rfl
  omega
 ·have hb:zbF m=[]:=by unfold zbF;rw [if_neg (by omega),if_neg (by omega),if_neg (by omega),if_neg (by omega)]
  rw [hb,hk]
  decide
 ·have hb:zbF m=famB m.f:=by unfold zbF;rw [if_neg (by omega),if_neg (by omega),if_neg (by omega),if_pos hk]
  rw [hb,hk,zjk]
  decide
theorem zlK (w:World) (lo hi:Nat) (m:MeP) (h:MeAt w lo hi m) (hh:hi≤w.heap.size) (hf:zt4 m) (hN:zaK w) (hK:zfd w) :
  Calls Tryz.prog 13 #[.agg m.C] w (ziF w m):=by
 have hb:=(Below.refl w.heap.size w).alloc (Nat.le_refl _) (.cells m.C 53)
 have hR:=znE (w.alloc (.cells m.C 53)) lo hi m (h.below (hb.mono hh)) (Nat.le_trans hh hb.size) hf (hN.below hb)
 have hok:=h.ok
 cases hr:zeZ m
 ·have he:zhA m=1:=by unfold zhA;rw [hr,if_pos rfl]
  rw [hr] at hR
  refine (zpD w m.k (opL m.o) (updL m.u) (noL m.n) (famL m.f) hok hR).mono ?_
  rintro e w' ⟨rfl,hw⟩
  exact .inl ⟨by omega,by rw [he],hw⟩
 rw [hr] at hR
 have he:zhA m=if m.k=2 then zdu m.u.up else 0:=by unfold zhA;rw [hr,if_neg (by decide)]
 have fin:zhA m=0→∀ b,zbF m=b→(0≤m.k∧m.k<256)→(∀ x,Below w.heap.size w x→Calls Tryz.prog 27 #[.agg (meC m.k (opL m.o) (updL m.u) (noL m.n) (famL m.f))] x (ziD x b)) →
   Calls Tryz.prog 13 #[.agg m.C] w (ziF w m):=fun h0 b hbd hk hB=>by
  have hl:=(ziz h.o.ib h0).2.2.1
  rw [hbd] at hl
  refine (zio w m.k (opL m.o) (updL m.u) (noL m.n) (famL m.f) hok b hk (by omega) hR hB).mono ?_
  rintro e w' ⟨v,rfl,ho,hw⟩
  exact .inr ⟨h0,v,rfl,by rw [hbd];exact ho,hw⟩
 rcases zge hr with ⟨hk,h1⟩ | ⟨hk,h1⟩ | ⟨hk,h1⟩ | hk | ⟨hk,h1⟩
 ·refine fin (by rw [he,if_neg (by omega)]) (opB m.o.op) (by unfold zbF;rw [if_pos hk]) (by omega) (fun x hx=>?_)
  rw [hk]
  exact zip x lo hi m.o (updL m.u) (noL m.n) (famL m.f) hok (h.o.below (hx.mono hh)) (Nat.le_trans hh hx.size) h1
 ·rw [if_pos hk] at he
  rcases zlZ m.u.up with h0 | h2 | ⟨_,h3⟩
  ·refine fin (by rw [he,h0]) (zd6 m.u.up) (by unfold zbF;rw [if_neg (by omega),if_pos hk]) (by omega) (fun x hx=>?_)
   rw [hk]
   refine (zkt x lo hi m.u (opL m.o) (noL m.n) (famL m.f) hok (h.u.below (hx.mono hh)) (Nat.le_trans hh hx.size) hf.u (hN.below hx) (hK.below hx)).mono ?_
   rintro e w' ⟨A,c,rfl,h5,h6,h7⟩
   exact ⟨A,c,by rw [h0],h5,h6,h7⟩
  ·refine (zlL w m.k (opL m.o) (updL m.u) (noL m.n) (famL m.f) hok hR (fun x hx=>?_)).mono ?_
   ·rw [hk]
    refine (zkt x lo hi m.u (opL m.o) (noL m.n) (famL m.f) hok (h.u.below (hx.mono hh)) (Nat.le_trans hh hx.size) hf.u (hN.below hx) (hK.below hx)).mono ?_
    rintro e w' ⟨A,c,rfl,h5,h6,h7⟩
    exact ⟨_,by rw [h2],h7⟩
   ·rintro e w' ⟨rfl,hw⟩
    exact .inl ⟨by rw [he,h2];decide,by rw [he,h2],hw⟩
  ·rw [h3] at h1;cases h1
 ·obtain ⟨hc,hs,hd⟩:=zfn h1
  refine fin (by rw [he,if_neg (by omega)]) ([UInt8.ofNat m.n.c.toNat,UInt8.ofNat m.n.s.toNat]++m.n.dl) (by unfold zbF;rw [if_neg (by omega),if_neg (by omega),if_pos hk]) (by omega) (fun x hx=>?_)
  rw [hk]
  have hdn:=h.n.row.len
  exact znH x lo hi m.n (opL m.o) (updL m.u) (famL m.f) hok (h.n.below (hx.mono hh)) (Nat.le_trans hh hx.size) _ _ (zqn hc) (zqn hs) (by omega)
 ·refine fin (by rw [he,if_neg (by omega)]) [] (by unfold zbF;rw [if_neg (by omega),if_neg (by omega),if_neg (by omega),if_neg (by omega)]) (by omega) (fun x hx=>?_)
  rw [hk]
  exact zlM x (opL m.o) (updL m.u) (noL m.n) (famL m.f) hok
 ·refine fin (by rw [he,if_neg (by omega)]) (famB m.f) (by unfold zbF;rw [if_neg (by omega),if_neg (by omega),if_neg (by omega),if_pos hk]) (by omega) (fun x hx=>?_)
  rw [hk]
  exact zjb x m.f (opL m.o) (updL m.u) (noL m.n) hok h1
def zp6 (m:MeP):Bool:=zeB m.u&&(decide (m.o.fn<100)&&decide (m.n.dn<8192))
theorem zp5 {m:MeP} (h:zp6 m=true):zt4 m∧zeB m.u=true:=by
 unfold zp6 at h
 simp only [Bool.and_eq_true,decide_eq_true_eq] at h
 have h1:=zrW h.1
 exact ⟨⟨by omega,h1.1,h1.2⟩,h.1⟩
theorem zp1 (w:World) (lo hi:Nat) (m:MeP) (h:MeAt w lo hi m) (hh:hi≤w.heap.size) (hs:FewS m.u) :
  Calls Tryz.prog 12 #[.agg m.C] w fun e w'=>e = .returned (.bool (zp6 m))∧Below w.heap.size w w':=by
 have B0:=hide (Blk.new w 53 m.C)
 have HM:=hide h.ok
 have HUL:=hide (zdx h.u.ob)
 have HIB:=hide h.o.ib
 obtain ⟨_,_,r2,_,_⟩:=zaQ HM.out B0.out
 have R2:=hide r2
 have W0:=hide ((Below.refl w.heap.size w).alloc (Nat.le_refl _) (.cells m.C 53))
 have HF:=hide (zrV (w.alloc (.cells m.C 53)) lo hi m.u (h.u.below (W0.out.mono hh)) (Nat.le_trans hh W0.out.size) hs)
 have HRES:Hid (zp6 m=(zeB m.u&&(decide (m.o.fn<100)&&decide (m.n.dn<8192)))):=hide rfl
 clear r2 h hh hs
 rw [HRES.out]
 generalize zeB m.u=q at *
 go_enter Tryz.func12,Tryz.ntmps12
 go_wp2_with (with_reducible refine zab rfl (zaI (.tmp 3) rfl w.heap.size 22 rfl R2.out HUL.out) ?_)
 refine HF.out.mono ?_
 rintro e w1 ⟨rfl,hb⟩
 have WB:=hide (zaa W0.out hb (Nat.le_refl _))
 obtain ⟨_,r1,_,r3,_⟩:=zaQ HM.out (B0.out.over hb)
 obtain ⟨_,_,_,c20,_⟩:=zdB r1 HIB.out
 obtain ⟨_,_,c50⟩:=zcs r3
 simp only [Nat.reduceAdd] at c20 c50
 clear hb r1 r3 HF B0
 cases q
 ·go_wp2
  go_ret
  exact ⟨rfl,WB.out⟩
 by_cases h1:m.o.fn<100
 ·have h1I:((m.o.fn:Nat):Int)<100:=by omega
  by_cases h2:m.n.dn<8192
  ·have h2I:((m.n.dn:Nat):Int)<8192:=by omega
   have D1:=hide (decide_eq_true h1)
   have D2:=hide (decide_eq_true h2)
   clear h1 h2
   go_wp2
   go_ret
   exact ⟨by rw [D1.out,D2.out];first | done | (simp;done) | (simp;omega),WB.out⟩
  ·have h2I:¬ ((m.n.dn:Nat):Int)<8192:=by omega
   have D1:=hide (decide_eq_true h1)
   have D2:=hide (decide_eq_false h2)
   clear h1 h2
   go_wp2
   go_ret
   exact ⟨by rw [D1.out,D2.out];first | done | (simp;done) | (simp;omega),WB.out⟩
 ·have h1I:¬ ((m.o.fn:Nat):Int)<100:=by omega
  have D1:=hide (decide_eq_false h1)
  clear h1
  go_wp2
  go_ret
  exact ⟨by rw [D1.out];first | done | (simp;done) | (simp;omega),WB.out⟩
end
section
open Go.RowKit
def HeadF (b:List UInt8) (s:Int) (L K:Nat):Prop:=hdK b=(if s=0 then ((K:Nat):Int) else 0)∧hdN b=(if s=0 then ((L:Nat):Int)-19 else 0)∧hdE b=0∧hdC b=(if s=0 then 0 else 1)∧hdS b=s∧hdD b=if s=2 then be 2 L else if s=3 then [UInt8.ofNat K] else []
theorem head_f {b:List UInt8} {s:Int} {L K:Nat} (hb:¬ b.length<19) (hsw:zkz b=s) (hlen:lenH b=L) (hkd:zkw b=K):HeadF b s L K:=by
 have hS:hdS b=s:=(if_neg hb).trans hsw
 refine ⟨?_,?_,if_neg hb,by unfold hdC;rw [hS],hS,by unfold hdD ztP;rw [hS,hlen,hkd]⟩
 ·unfold hdK
  rw [hsw,hkd]
  by_cases h0:s=0
  ·rw [if_neg (by simp [h0,hb]),if_pos h0]
  ·rw [if_pos (.inr h0),if_neg h0]
 ·unfold hdN
  rw [hsw,hlen]
  by_cases h0:s=0
  ·rw [if_neg (by simp [h0,hb]),if_pos h0]
  ·rw [if_pos (.inr h0),if_neg h0]
theorem zm0 {x k l m:Int} (h1:zde k=l) (h2:zez k=m) (h3:m≠0) (hr:¬ ¬ (19≤x∧x≤4096)) (h:l≤x∧x≤m):zdN true x k=0:=by
 unfold zdN
 rw [if_neg (by decide),if_neg hr,h1,h2,if_neg h3,if_neg (not_not_intro h)]
end
section
open Go.RowKit
theorem zgj {k:Int} {L:Nat} (r:List UInt8) (h1:zde k≤19+(L:Int)) (h2:19+(L:Int)≤zez k) (hk:1≤k∧k≤5) (hl:L≤4077) :
  hdK (zc0 k L++r)=k∧hdN (zc0 k L++r)=L∧hdE (zc0 k L++r)=0∧hdC (zc0 k L++r)=0:=by
 obtain ⟨p,q,e⟩:=ztA (zaW 2 (19+L))
 have hpq:p.toNat*256+q.toNat=19+L:=by
  have:=zmW 2 (19+L) (by omega)
  rw [e] at this
  simpa [big] using this
 have hz:(UInt8.ofNat k.toNat).toNat=k.toNat:=by simp;omega
 have hb:zc0 k L++r=mkH++([p,q,UInt8.ofNat k.toNat]++r):=by
  unfold zc0
  rw [e,List.append_assoc]
  rfl
 have hlen:¬ (zc0 k L++r).length<19:=by rw [List.length_append,zkA];omega
 have ht:(zc0 k L++r).take 16=mkH:=by rw [hb,List.take_left' (by unfold mkH;simp)]
 have hL:lenH (zc0 k L++r)=19+L:=by
  unfold lenH
  rw [hb,List.drop_left' (by unfold mkH;simp)]
  show big [p,q]=_
  simpa [big] using hpq
 have hK:zkw (zc0 k L++r)=k.toNat:=by
  unfold zkw
  rw [hb]
  show (UInt8.ofNat k.toNat).toNat=_
  exact hz
 have hkt:((k.toNat:Nat):Int)=k:=by omega
 have hw:zkz (zc0 k L++r)=0:=by
  unfold zkz
  rw [ht,decide_eq_true rfl,hL,hK,hkt]
  exact zm0 (k:=k) (l:=zde k) (m:=zez k) rfl rfl (by omega) (by omega) (by omega)
 obtain ⟨f1,f2,f3,f4,_,_⟩:=head_f hlen hw hL hK
 exact ⟨by rw [f1,if_pos rfl,hkt],by rw [f2,if_pos rfl];omega,f3,by rw [f4,if_pos rfl]⟩
set_option maxRecDepth 20000 in
set_option maxHeartbeats 8000000 in
theorem znG (w:World) (hg:zaK w∧zfd w) (m:MeP) (hM:MeAt w 0 w.heap.size m) (hS:FewS m.u) (B:Option Addr) (n c:Nat) (b:List UInt8) (hAt:At w 0 w.heap.size B n b) (hn:n≤c) (hc:c≤140737488351232) :
  Calls Tryz.prog 4 #[.agg m.C,.slice B n c] w fun e w'=>e = .returned (.bool true)∧Below w.heap.size w w':=by
 obtain ⟨i0,hi0,hz0,hz1,hz2⟩:=info_parts za4
 have HM:=hide hM
 have HOK:=hide hM.ok
 have HIB:=hide hM.o.ib
 have HS:=hide hS
 have HN:=hide hg.1
 have HK:=hide hg.2
 have H0:=hide hAt
 have HL:=hide hAt.len
 have B0:=hide (Blk.new w 53 m.C)
 have W0:=hide ((Below.refl w.heap.size w).alloc (Nat.le_refl _) (.cells m.C 53))
 clear hM hS hg hAt hn hc
 go_enter Tryz.func4,Tryz.ntmps4
 go_wp2_with fail
 generalize w.alloc (.cells m.C 53)=w0 at *
 refine (zlJ w0).mono ?_
 rintro e w1 ⟨rfl,hb1⟩
 have W1:=hide (zaa W0.out hb1 (Nat.le_refl _))
 have B1:=hide (B0.out.over hb1)
 clear hb1 W0 B0
 go_wp2_with (with_reducible refine zab rfl (zav (.tmp 2) rfl w.heap.size rfl HOK.out B1.out) ?_)
 refine (zp1 w1 0 w.heap.size m (HM.out.below W1.out) W1.out.size HS.out).mono ?_
 cases hf:zp6 m
 ·rintro e w2 ⟨rfl,hb2⟩
  have W2:=hide (zaa W1.out hb2 (Nat.le_refl _))
  clear hb2 hf
  go_wp2
  go_ret
  exact ⟨rfl,W2.out⟩
 rintro e w2 ⟨rfl,hb2⟩
 have W2:=hide (zaa W1.out hb2 (Nat.le_refl _))
 have B2:=hide (B1.out.over hb2)
 have FIT:=hide (zp5 hf).1
 clear hb2 hf W1 B1
 by_cases hn4:4096<(n:Int)
 ·go_wp2
  go_ret
  exact ⟨rfl,W2.out⟩
 go_wp2_with (with_reducible refine zab rfl (zav (.tmp 2) rfl w.heap.size rfl HOK.out B2.out) ?_)
 refine (zlK w2 0 w.heap.size m (HM.out.below W2.out) W2.out.size FIT.out (HN.out.below W2.out) (HK.out.below W2.out)).mono ?_
 rintro e w3 (⟨he,rfl,hb3⟩ | ⟨he,v,rfl,hown,hb3⟩)
 ·have W3:=hide (zaa W2.out hb3 (Nat.le_refl _))
  have HE:(zhA m != 0)=true:=bne_iff_ne.2 he
  clear hb3 he
  go_wp2
  go_ret
  exact ⟨rfl,W3.out⟩
 obtain ⟨b1,b2,b3,b4,b5⟩:=ziz HIB.out he
 obtain ⟨BD,hBD⟩:∃ x,zbF m=x:=⟨_,rfl⟩
 rw [hBD] at hown b1 b2 b3
 obtain ⟨L,hL⟩:∃ x,BD.length=x:=⟨_,rfl⟩
 rw [hL] at hown b1 b2 b3
 obtain ⟨A3,c3,rfl,hc3,_⟩:=zac hown
 have W3:=hide (zaa W2.out hb3 (Nat.le_refl _))
 have B3:=hide (B2.out.over hb3)
 have T3:=hide (At.own hown)
 have WL:Hid ((zc0 m.k L++BD).length=19+L):=hide (by rw [List.length_append,zkA,hL])
 have HB:=hide (zgj BD b1 b2 ⟨b4,b5⟩ b3)
 have HBB:=hide (zgj (BD++b) b1 b2 ⟨b4,b5⟩ b3)
 rw [← List.append_assoc] at HBB
 have k3:=(zaQ HOK.out B3.out).1
 obtain ⟨WD,hWD⟩:∃ x,zc0 m.k L++BD=x:=⟨_,rfl⟩
 rw [hWD] at T3 WL HB HBB
 have T4:=hide (T3.out.alloc (Nat.le_refl _) (.cells #[] 5))
 have hn4':n≤4096:=by omega
 have hc3':=hide hc3
 clear hb3 he hown hBD hL hWD B2 FIT b1 b2
 go_wp2_with (at_builtin;refine zad _ rfl (.tmp 42) (.tmp 43) 22 rfl w3.heap.size 5 i0 Tryz.underlying22 hi0 hz0 hz1 hz2 (.slice (some ⟨w3.heap.size,0,none⟩) 0 0) 0 [] rfl (World.ownsRow_made w3 #[] 0 (Nat.le_refl _) (Nat.zero_le _) rfl) w2.heap.size w3.heap.size A3 (19+L) c3 WD rfl T4.out (by omega) (by simp) ?_;intro v4 w4 hown4 hg4 hat4;rw [Nat.zero_add,List.nil_append] at hown4;have O4:=hide hown4;have W34:Hid (Below w3.heap.size w3 w4):=hide (((Below.refl _ _).alloc (Nat.le_refl _) (.cells #[] 5)).grown hg4 (by simp) (by simp [Value.ownBlock]));(obtain ⟨A4,c4,hv4,hc4,_⟩:=zac hown4);subst hv4;clear hown4 hg4 hat4;refine Hid.out ?_)
 refine hide ?_
 have W4:=hide (zaa W3.out W34.out (Nat.le_refl _))
 have B4:=hide (B3.out.over W34.out)
 have X4:=hide (H0.out.below W4.out)
 have O4s:=hide (fun q hq=>(O4.out.lt q hq).1)
 go_wp2_with (at_builtin;refine zad _ rfl (.tmp 44) (.tmp 45) 22 rfl w3.heap.size 5 i0 Tryz.underlying22 hi0 hz0 hz1 hz2 (.slice A4 (19+L) c4) (19+L) WD rfl O4.out 0 w.heap.size B n c b rfl X4.out (by omega) (by have:=W34.out.size;omega) ?_;intro v5 w5 hown5 hg5 hat5;have O5:=hide hown5;have B5:=hide (B4.out.grown hg5 (fun e=>by have h1:=O4s.out _ e.symm;have h2:=B3.out.lt;omega));have W45:Hid (Below w3.heap.size w4 w5):=hide ((Below.refl _ _).grown hg5 (by have:=W34.out.size;omega) O4s.out);(obtain ⟨A5,c5,hv5,hc5,_⟩:=zac hown5);subst hv5;clear hown5 hg5 hat5;refine Hid.out ?_)
 refine hide ?_
 have W5:=hide (W4.out.trans (W45.out.mono W3.out.size))
 have T5:=hide (T3.out.below (W34.out.trans W45.out))
 have hz3:w3.heap.size≤w5.heap.size:=Nat.le_trans W34.out.size W45.out.size
 clear T3 T4 W34 W45 O4 O4s B4 B3 X4 W4
 go_wp2_with fail
 refine (zjh w5 w3.heap.size w5.heap.size A5 (19+L+n) c5 (WD++b) (At.own O5.out) (Nat.le_refl _) hc5).mono ?_
 unfold zfH
 rw [HBB.out.1,HBB.out.2.1,HBB.out.2.2.1,HBB.out.2.2.2]
 rintro e w6 ⟨X,rfl,hx1,_,_,_,hb6⟩
 have X1:=hide hx1
 have W6:=hide (zaa W5.out hb6 (Nat.le_refl _))
 have B6:=hide (B5.out.over hb6)
 have T6:=hide (T5.out.below (hb6.mono hz3))
 have N6:=hide (Blk.new w6 26 zNo)
 have hz6:w3.heap.size≤w6.heap.size:=Nat.le_trans hz3 hb6.size
 clear hx1 hb6 B5 T5 O5 W5
 go_wp2_with (refine zaq rfl (.tmp 11) (.tmp 50) rfl w6.heap.size rfl X rfl N6.out rfl ?_;intro w7 hb7 hg7;have K7:=hide hb7;have W67:Hid (Below w6.heap.size w6 w7):=hide (((Below.refl _ _).alloc (Nat.le_refl _) _).grown hg7 (by simp) (fun q hq=>by injection hq with hq;omega));clear hb7 hg7;refine Hid.out ?_)
 refine hide ?_
 have W7:=hide (zaa W6.out W67.out (Nat.le_refl _))
 have B7:=hide (B6.out.over W67.out)
 have T7:=hide (T6.out.below (W67.out.mono hz6))
 have hz7:w3.heap.size≤w7.heap.size:=Nat.le_trans hz6 W67.out.size
 clear N6 W67 B6 T6 W6
 go_wp2_with fail
 refine (zjh w7 w2.heap.size w3.heap.size A3 (19+L) c3 WD T7.out hz7 hc3'.out).mono ?_
 unfold zfH
 rw [HB.out.1,HB.out.2.1,HB.out.2.2.1,HB.out.2.2.2]
 rintro e w8 ⟨Y,rfl,hy1,_,_,_,hb8⟩
 have Y1:=hide hy1
 have W8:=hide (zaa W7.out hb8 (Nat.le_refl _))
 have B8:=hide (B7.out.over hb8)
 have K8:=hide (K7.out.over hb8)
 have N8:=hide (Blk.new w8 26 zNo)
 clear hy1 hb8 B7 T7 W7 K7
 go_wp2_with (refine zaq rfl (.tmp 15) (.tmp 57) rfl w8.heap.size rfl Y rfl N8.out rfl ?_;intro w9 hb9 hg9;have K9:=hide hb9;have W89:Hid (Below w8.heap.size w8 w9):=hide (((Below.refl _ _).alloc (Nat.le_refl _) _).grown hg9 (by simp) (fun q hq=>by injection hq with hq;omega));clear hb9 hg9;refine Hid.out ?_)
 refine hide ?_
 have W9:=hide (zaa W8.out W89.out (Nat.le_refl _))
 have k97:=(zaQ HOK.out (B8.out.over W89.out)).1
 have k69:=(zcs (zaj (l:=noL X) (K8.out.over W89.out))).1
 have k74:=(zcs (zaj (l:=noL Y) K9.out)).1
 rw [X1.out] at k69
 rw [Y1.out] at k74
 obtain ⟨N,hNN⟩:∃ N,19+L=N:=⟨_,rfl⟩
 obtain ⟨LI,hLI⟩:∃ z:Int,((L:Nat):Int)=z:=⟨_,rfl⟩
 rw [hNN,hLI]
 have hwr:wrap64 ((N:Int)-19)=LI:=by unfold wrap64;omega
 have hwi:IntKind.i64.wrap ((N:Int)-19)=LI:=by rw [IntWalk.i64_in _ (by omega)];omega
 clear hNN hLI WL b3 b4 b5 HB HBB hc3 hc3' hc5 hc4 N8 W89 B8 K8 K9 W8 k3
 generalize m.k=kk at *
 go_wp2
 go_ret
 exact ⟨by simp,W9.out⟩
end
end Go.Proofs.YthgainmcnjldaaaGreatDoor
