/-
  How an update is read: split, reset, Parse of package update, in whatever memory, given what attr.Read and subOf do there. The one condition beyond sizes that fit memory: the program's table holds what its text lays.
  What Parse of package update makes of a body that was written. The one condition beyond sizes that fit memory: the program's tables hold what their texts lay.
-/
import Derived.Test.YtookpplebikfnaaGreatDoorKEBN
set_option linter.unusedVariables false
set_option linter.unusedSimpArgs false
namespace Go.Proofs.YtookpplebikfnaaGreatDoor
section
set_option maxRecDepth 20000
open Go.RowKit
def spN (b:List UInt8):Nat:=zau b 2
def spR (b:List UInt8):List UInt8:=zae (zai b 2) (spN b:Nat)
def spM (b:List UInt8):Nat:=zau (spR b) 2
def ownB (b:List UInt8):List UInt8:=zab (zai (spR b) 2) (spM b:Nat)
def badB (b:List UInt8):Bool:=!zec b 2||!zbf (zai b 2) (spN b:Nat)||!zec (spR b) 2||!zbf (zai (spR b) 2) (spM b:Nat)
def zdN (b:List UInt8):Bool:=decide ((zdu (ownB b)).2=0)&&!badB b
def zqa (w:World) (b:List UInt8) (e:Ending) (w':World):Prop :=
 ∃ v xs,e = .returned (.tuple #[v,.bool (zdN b)])∧zaw w' w.heap.size 89 5 v xs∧xs.map RawP.raw=(zdu (ownB b)).1∧Below w.heap.size w w'
theorem zjW (b:List UInt8):zau b 2<9223372036854775808:=by
 unfold zau
 split
 ·have h1:=zfn (zab b 2)
  have h2:(zab b 2).length≤2:=by
   unfold zab
   split
   ·rw [List.length_take];exact Nat.min_le_left _ _
   ·simp
  have h3:256^(zab b 2).length≤256^2:=Nat.pow_le_pow_right (by decide) h2
  omega
 ·decide
set_option maxHeartbeats 2000000 in
theorem zoK (w:World) (lo hi:Nat) (A:Option Addr) (n c:Nat) (b:List UInt8) (h:At w lo hi A n b) (hh:hi≤w.heap.size) (hn:n≤140737488355328) :
  Calls Tryz.prog 28 #[.slice A n c] w (zqa w b):=by
 have H:=hide h
 clear h
 go_enter Tryz.func28,Tryz.ntmps28
 go_wp2_with fail
 refine (zbc w lo hi A n c b H.out hh hn).mono ?_
 rintro e w1 ⟨g,rfl,hg,hr1,hb1⟩
 have R1:=hide hr1
 have B1:=hide hb1
 have HG:=hide hg
 clear hr1 hb1 hg
 go_wp2_with fail
 refine (zbi w1 _ g b false R1.out 2 (by decide)).mono ?_
 rintro e w2 ⟨rfl,hr2,hg2⟩
 have R2:=hide hr2
 have B2:=hide (B1.out.grown hg2 B1.out.size (fun k hk=>by injection hk with hk;have:=HG.out;omega))
 have HN:Hid ((zau b 2:Nat)=spN b):=hide rfl
 have wn:(Lit.int .i64 ((spN b:Nat):Int)).wf=true:=zcI (zjW b)
 rw [HN.out]
 clear hr2 hg2 R1 B1
 go_wp2_with fail
 refine (za5 w2 _ g _ _ R2.out _ wn).mono ?_
 rintro e w3 ⟨v3,rfl,_,hr3,hg3⟩
 have R3:Hid (Rd w3 w.heap.size g (spR b) _):=hide hr3
 have B3:=hide (B2.out.grown hg3 B2.out.size (fun k hk=>by injection hk with hk;have:=HG.out;omega))
 clear hr3 hg3 R2 B2
 go_wp2_with fail
 refine (zbi w3 _ g (spR b) _ R3.out 2 (by decide)).mono ?_
 rintro e w4 ⟨rfl,hr4,hg4⟩
 have R4:=hide hr4
 have B4:=hide (B3.out.grown hg4 B3.out.size (fun k hk=>by injection hk with hk;have:=HG.out;omega))
 have HM:Hid ((zau (spR b) 2:Nat)=spM b):=hide rfl
 have wm:(Lit.int .i64 ((spM b:Nat):Int)).wf=true:=zcI (zjW (spR b))
 rw [HM.out]
 clear hr4 hg4 R3 B3
 go_wp2_with fail
 refine (za5 w4 _ g _ _ R4.out _ wm).mono ?_
 rintro e w5 ⟨v5,rfl,ho5,hr5,hg5⟩
 have ho5':w5.ownsRow w4.heap.size 5 1 v5 (ownB b).length (bvs (ownB b)):=ho5
 obtain ⟨A5,c5,rfl,_,_⟩:=zad ho5'
 have O5:=hide (At.own ho5')
 have R5:Hid (Rd w5 w.heap.size g _ (badB b)):=hide hr5
 have B5:=hide (B4.out.grown hg5 B4.out.size (fun k hk=>by injection hk with hk;have:=HG.out;omega))
 have hl5:(ownB b).length≤140737488355328:=by
  have h9:=R4.out.len
  unfold ownB zab
  split
  ·rw [List.length_take];omega
  ·simp
 clear ho5 ho5' hr5 hg5 R4 B4
 go_wp2_with fail
 refine (zqF w5 _ _ A5 _ c5 (ownB b) O5.out (Nat.le_refl _) hl5).mono ?_
 have HW:Hid (zdN b=(decide ((zdu (ownB b)).2=0)&&!badB b)):=hide rfl
 unfold zes
 generalize (zdu (ownB b)).2=er at *
 rintro e w6 ⟨v6,ys,rfl,ho6,hr6,hb6⟩
 obtain ⟨A6,c6,rfl,_,_⟩:=ho6.shape
 have O6:=hide ho6
 have W6:=hide hr6
 have R6:=hide (R5.out.below hb6 R5.out.lt)
 have B6:=hide (zaa B5.out hb6 (Nat.le_refl _))
 clear ho6 hr6 hb6 R5 O5
 by_cases he:er=0
 ·subst he
  go_wp2_with fail
  refine (R6.out.bad).mono ?_
  rintro e w7 ⟨rfl,rfl⟩
  go_wp2
  go_ret2
  exact ⟨_,ys,by rw [HW.out];rfl,O6.out.more B5.out.size,W6.out,B6.out⟩
 ·have heb:(er==0)=false:=beq_eq_false_iff_ne.2 he
  have HE:Hid (zdN b=false):=hide (by rw [HW.out,decide_eq_false he];rfl)
  clear he
  go_wp2
  go_ret2
  exact ⟨_,ys,by rw [HE.out];rfl,O6.out.more B5.out.size,W6.out,B6.out⟩
def zgA (k s:Int):Array Value:=#[.int .i64 k,.int .i64 s,.slice none 0 0]
theorem zaI {ops:Array Oper} {rest:List Oper} {o:Oper} {a:Act} {w:World} {Q:Exit→Act→World→Prop} (hgd:o.guard=none) (x y:Operand) (ho:o.op = .store 41 x y) (g:Nat) (hx:a.eval x = .pointer (some ⟨g,0,none⟩)) (k s:Int) (hy:a.eval y = .agg (zgA k s)) {t:TypeId} {old:Array Value} (h:Blk w g t old) (hold:old.size=3)
  (hk:∀ w',Blk w' g t (zgA k s)→w.grownBy w' (some g)→wpList Tryz.prog ops Q rest (a.put o.dst undef) w'):wpList Tryz.prog ops Q (o::rest) a w :=
 wpList_store_row hgd 41 x y ho g (zgA k s) hx hy t old h (by show _=some 3;kernel_rfl) (by rw [hold];rfl) (by simp [zgA,Value.oneCell']) (hk _ (h.setRow _) (zaO _ _ _))
theorem zr3 {w:World} {g:Nat} {t:TypeId} {k s:Int} (h:Blk w g t (zgA k s)):(loadVar 41 ⟨g,0,none⟩).run Tryz.prog w = .ok (.agg (zgA k s)) w :=
 run_loadVar_mid w g 0 41 [.int .i64 k,.int .i64 s,.slice none 0 0] _ (zah (l:=[.int .i64 k,.int .i64 s,.slice none 0 0]) h) Tryz.underlying41 rfl (by show _=some 3;kernel_rfl)
theorem zeA {fn:Func} {R:Ending→World→Prop} {a:Act} {w:World} {c q d:Tmp} {g gn:Nat} {t tn:TypeId} {u:UpP} {v:Value} {k s:Int} (hf:fn.results=#[.cell c 33,.tmp q,.cell d 41])
  (hp:a.tmps.getD c undef = .pointer (some ⟨g,0,none⟩)) (hq:a.tmps.getD q undef=v) (hn:a.tmps.getD d undef = .pointer (some ⟨gn,0,none⟩)) (h:Blk w g t (updC u)) (h':Blk w gn tn (zgA k s)) (hl:u.at_.ob.length=16) (hd:a.defers=[]) (hR:R (.returned (.tuple #[.agg (updC u),v,.agg (zgA k s)])) w) :
  bodyPost Tryz.prog fn R .ret a w:=by
 refine bodyPost_ret (v:=.tuple #[.agg (updC u),v,.agg (zgA k s)]) ?_ hd hR
 have hp':a.tmps[c]?.getD undef = .pointer (some ⟨g,0,none⟩):=by simpa using hp
 have hq':a.tmps[q]?.getD undef=v:=by simpa using hq
 have hn':a.tmps[d]?.getD undef = .pointer (some ⟨gn,0,none⟩):=by simpa using hn
 simp [results,hf,hp',hq',hn',asAddr,zkP (zah (l:=updL u) h) hl,zr3 h']
abbrev zdC:Array Value:=#[.int .i64 0,.int .i64 0,.slice none 0 0]
theorem ziC (w:World) (s:Int):Calls Tryz.prog 29 #[.int .i64 s] w fun e w'=>e = .returned (.tuple #[.agg (updC zcY),.int .i64 3,.agg (zgA 3 s)])∧Below w.heap.size w w':=by
 have N0:=hide ((Blk.new w 33 zUpd).alloc (.cells zdC 41))
 have e1:(w.alloc (.cells zUpd 33)).heap.size=w.heap.size+1:=by simp
 have M0:=Blk.new (w.alloc (.cells zUpd 33)) 41 zdC
 rw [e1] at M0
 have W0:Hid (Below w.heap.size w ((w.alloc (.cells zUpd 33)).alloc (.cells zdC 41))):=hide (((Below.refl _ _).alloc (Nat.le_refl _) _).alloc (by rw [e1];omega) _)
 have MM0:=hide M0
 clear M0 e1
 go_enter Tryz.func29,Tryz.ntmps29
 go_wp2_with fail
 refine (zfs _).mono ?_
 rintro e w1 ⟨rfl,hb1⟩
 have N1:=hide (N0.out.over hb1)
 have M1:=hide (MM0.out.over hb1)
 have W1:=hide (zaa W0.out hb1 (by simp))
 clear hb1 N0 W0 MM0
 go_wp2_with (first
  | (refine zas rfl (.tmp 2) (.tmp 5) rfl w.heap.size rfl zcY rfl zcD N1.out rfl ?_;intro w2 hb2 hg2;have K2:=hide hb2;have G2:=hide hg2;have M2:=hide (M1.out.grown hg2 (by simp));clear hb2 hg2;refine Hid.out ?_))
 refine hide ?_
 go_wp2_with (refine zaI rfl (.tmp 4) (.tmp 7) rfl (w.heap.size+1) rfl 3 s rfl M2.out rfl ?_;intro w3 hb3 hg3;have K3:=hide hb3;have G3:=hide hg3;clear hb3 hg3;refine Hid.out ?_)
 refine hide ?_
 go_wp2
 refine zeA (c:=2) (q:=3) (d:=4) rfl rfl rfl rfl (K2.out.grown G3.out (by simp)) K3.out zcD rfl ?_
 exact ⟨rfl,(W1.out.grown G2.out W1.out.size (fun g hg=>by injection hg with hg;omega)).grown G3.out (by have:=W1.out.size;have:=G2.out.size;omega) (fun g hg=>by injection hg with hg;omega)⟩
def znu:Up:=⟨zbV,[],[]⟩
inductive zd8 (b:List UInt8) (J:Ats→List Rw→Int→Prop):Up→Int→Int→Int→Prop where
 | torn:zdN b=false→zd8 b J znu 3 3 1
 | reset (a:Ats) (rest:List Rw) (s:Int):zdN b=true→J a rest 3→zd8 b J znu 3 3 s
 | table (a:Ats) (rest:List Rw) (o:Int):zdN b=true→J a rest o→o≠3→max o (tabs rest).2.2=3→zd8 b J znu 3 3 9
 | held (a:Ats) (rest:List Rw) (o:Int):zdN b=true→J a rest o→o≠3→max o (tabs rest).2.2=2→zd8 b J ⟨zbV,[],(tabs rest).1.map zpR++(tabs rest).2.1⟩ 2 0 0
 | reach (a:Ats) (rest:List Rw) (o m:Int):zdN b=true→J a rest o→o≠3→max o (tabs rest).2.2=m→m≠3→m≠2→0<(tabs rest).1.length→zd8 b J ⟨a,(tabs rest).1,(tabs rest).2.1⟩ m 0 0
 | none (a:Ats) (rest:List Rw) (o m:Int):zdN b=true→J a rest o→o≠3→max o (tabs rest).2.2=m→m≠3→m≠2→(tabs rest).1.length=0→zd8 b J ⟨zbV,(tabs rest).1,(tabs rest).2.1⟩ m 0 0
def zjf (w:World) (b:List UInt8) (J:Ats→List Rw→Int→Prop) (e:Ending) (w':World):Prop :=
 ∃ (U:UpP) (o nc ns:Int),e = .returned (.tuple #[.agg (updC U),.int .i64 o,.agg (zgA nc ns)])∧UpAt w' w.heap.size w'.heap.size U∧zd8 b J U.up o nc ns∧Below w.heap.size w w'
theorem zrq (r:Bool) (b:List UInt8):(rdL r b).length≤1:=by
 unfold rdL
 split <;> simp
theorem ztk (l:List Rw):(tabs l).1.length≤1∧(tabs l).2.1.length≤1:=by
 have h:∀ (l:List Rw) (s:List Tb × List Tb × Int),s.1.length≤1∧s.2.1.length≤1→(l.foldl zcn s).1.length≤1∧(l.foldl zcn s).2.1.length≤1:=by
  intro l
  induction l with
  | nil=>exact fun s hs=>hs
  | cons x r ih =>
   intro s hs
   refine ih _ ?_
   unfold zcn
   split
   ·exact ⟨zrq _ _,hs.2⟩
   ·split
    ·exact ⟨hs.1,zrq _ _⟩
    ·exact hs
 exact h l _ ⟨Nat.zero_le _,Nat.zero_le _⟩
structure PrsS (w y:World):Prop where
 r:Blk y w.heap.size 33 zUpd
 n:Blk y (w.heap.size+1) 41 zdC
 bl:Below w.heap.size w y
theorem PrsS.on {w y z:World} (h:PrsS w y) (hb:Below y.heap.size y z):PrsS w z:=⟨h.r.over hb,h.n.over hb,zaa h.bl hb (Nat.le_refl _)⟩
theorem PrsS.grown {w y z:World} {g:Nat} (h:PrsS w y) (hg:y.grownBy z (some g)) (hq:w.heap.size+1<g):PrsS w z :=
 ⟨h.r.grown hg (by simp;omega),h.n.grown hg (by simp;omega),h.bl.grown hg h.bl.size (fun k hk=>by injection hk;omega)⟩
theorem zk2 (w:World) (lo hi:Nat):UpAt w lo hi zcY:=⟨zga _ _ _,RowE.nil _ _ _ _,RowE.nil _ _ _ _,Nat.le_refl _,Nat.le_refl _⟩
theorem zg6 {w y y1 y2:World} {b:List UInt8} {J:Ats→List Rw→Int→Prop} {V:UpP} {hi:Nat} {o nc ns:Int} (h:PrsS w y) (h1:y.grownBy y1 (some w.heap.size)) (h2:y1.grownBy y2 (some (w.heap.size+1))) (hv:UpAt y (w.heap.size+2) hi V∧hi≤y.heap.size) (ho:zd8 b J V.up o nc ns) :
  zjf w b J (.returned (.tuple #[.agg (updC V),.int .i64 o,.agg (zgA nc ns)])) y2:=by
 have e1:=h1.size
 have e2:=h2.size
 refine ⟨V,o,nc,ns,rfl,(hv.1.keep (fun q q1 q2=>?_)).more (by omega) (by have:=hv.2;omega),ho,?_⟩
 ·rw [World.cell?_of_block (h2.block q.block (by have:=hv.2;omega) (fun e=>by injection e with e;omega)),World.cell?_of_block (h1.block q.block (by have:=hv.2;omega) (fun e=>by injection e with e;omega))]
 ·exact (h.bl.grown h1 h.bl.size (fun k hk=>by injection hk;omega)).grown h2 (by have:=h.bl.size;omega) (fun k hk=>by injection hk;omega)
theorem zhc {ops:Array Oper} {rest:List Oper} {o:Oper} {a:Act} {w:World} {Q:Exit→Act→World→Prop} (hgd:o.guard=none) (x y:Operand) (ho:o.op = .store 30 x y) (g:Nat) (hx:a.eval x = .pointer (some ⟨g,0,none⟩)) (p:AtP) (hy:a.eval y = .agg (attC p)) (hl:p.ob.length=16) {t:TypeId} (U:UpP) (h:Blk w g t (updC U)) (hU:U.at_.ob.length=16)
  (hk:∀ w',Blk w' g t (updC { U with at_:=p })→w.grownBy w' (some g)→wpList Tryz.prog ops Q rest (a.put o.dst undef) w'):wpList Tryz.prog ops Q (o::rest) a w:=by
 refine wpList_plain hgd fun K hK'=>?_
 have ht:w.there g 0 (attC p).size:=fun j hj=>by
  refine ⟨?_,h.frozen _⟩
  rw [h.cell]
  have h1:=zgn (u:=U) hU
  have h2:=zbS (p:=p) hl
  have:0+j<(updC U).size:=by omega
  simp;omega
 have hi:(Tryz.prog.info? 30).map (·.size)=some (attC p).size:=by rw [zbS hl];kernel_rfl
 have hst:=run_storeVar_mid (P:=Tryz.prog) w g 0 30 (attC p) ht hi (zld p)
 have hrun:(execOp a.eval o).run Tryz.prog w = .ok .skip (w.setCells g 0 (attL p)):=by
  unfold execOp
  simp only [ho,hx,hy,Instr.storeAt,Instr.sureAddr,Sem.run_bind,Sem.run_pure,Result.andThen_ok,hst]
  rfl
 unfold Oper.wp
 rw [hrun]
 refine hK' _ _ (hk _ ?_ (zap _ _ _ _ (zac w _)))
 exact zc0 (attL p) (attL U.at_) [] (r:=[.slice U.rA U.rn U.rc,.slice U.nA U.nn U.nc]) w (by rw [zbj hl,zbj hU]) h
set_option maxHeartbeats 8000000 in
theorem zoO (w:World) (lo hi:Nat) (A:Option Addr) (n c:Nat) (b:List UInt8) (h:At w lo hi A n b) (hh:hi≤w.heap.size) (hn:n≤140737488355328) (hN:zaQ w) (J:Ats→List Rw→Int→Prop)
  (hJ:∀ a rest o,J a rest o→o≠3→rest.length≤100000∧∀ x∈rest,x.v.length≤1000000000)
  (hRd:∀ (wr:World) (A:Option Addr) (n c:Nat) (ys:List RawP),zb9 wr w.heap.size wr.heap.size A n ys→ys.map RawP.raw=(zdu (ownB b)).1→zdN b=true→Below w.heap.size w wr→Calls Tryz.prog 30 #[.slice A n c] wr (zqb wr J))
  (hSub:∀ (wr:World) (A:Option Addr) (n c:Nat) (ys:List RawP),zb9 wr w.heap.size wr.heap.size A n ys→n≤c→ys.map RawP.raw=(zdu (ownB b)).1→Below w.heap.size w wr→(∃ a rest,J a rest 3)→Calls Tryz.prog 31 #[.slice A n c] wr fun e w'=>∃ s:Int,e = .returned (.int .i64 s)∧Below wr.heap.size wr w') :
  Calls Tryz.prog 11 #[.slice A n c] w (zjf w b J):=by
 have H:=hide h
 have HN:=hide hN
 have HJ:=hide hJ
 have HRD:=hide hRd
 have HSB:=hide hSub
 have e1:(w.alloc (.cells zUpd 33)).heap.size=w.heap.size+1:=by simp
 have M0:=Blk.new (w.alloc (.cells zUpd 33)) 41 zdC
 rw [e1] at M0
 have P0:Hid (PrsS w ((w.alloc (.cells zUpd 33)).alloc (.cells zdC 41))):=hide ⟨(Blk.new w _ _).alloc _,M0,((Below.refl _ _).alloc (Nat.le_refl _) _).alloc (by rw [e1];omega) _⟩
 clear h hN hJ hRd hSub M0 e1
 go_enter Tryz.func11,Tryz.ntmps11
 go_wp2_with fail
 refine (zoK _ lo hi A n c b (H.out.below (P0.out.bl.mono hh)) (Nat.le_trans hh P0.out.bl.size) hn).mono ?_
 rintro e w1 ⟨v1,ys,rfl,ho1,hr1,hb1⟩
 obtain ⟨A1,c1,rfl,hc1,_⟩:=ho1.shape
 have P1:=hide (P0.out.on hb1)
 have HZ1:=hide (show w.heap.size+2≤w1.heap.size from P1.out.n.lt)
 have Y1:=hide ((ho1.at_ (n:=ys.length) rfl).more (lo':=w.heap.size) P0.out.bl.size (Nat.le_refl _))
 have RW:=hide hr1
 clear ho1 hr1 hb1 P0
 cases hw:zdN b
 ·have HW:=hide hw
  clear hw
  go_wp2_with fail
  refine (ziC w1 1).mono ?_
  rintro e w2 ⟨rfl,hb2⟩
  have PZ:=hide (P1.out.on hb2)
  clear hb2
  go_wp2_with (refine zas rfl (.tmp 2) (.tmp 20) rfl w.heap.size rfl zcY rfl zcD PZ.out.r rfl ?_;intro w8 hb8 hg8;have K8:=hide hb8;have HG8:=hide hg8;have N8:=hide (PZ.out.n.grown hg8 (by simp));clear hb8 hg8;refine Hid.out ?_)
  refine hide ?_
  go_wp2_with (refine zaI rfl (.tmp 4) (.tmp 22) rfl (w.heap.size+1) rfl 3 1 rfl N8.out rfl ?_;intro w9 hb9 hg9;have K9:=hide hb9;have HG9:=hide hg9;clear hb9 hg9;refine Hid.out ?_)
  refine hide ?_
  go_wp2
  refine zeA (c:=2) (q:=3) (d:=4) rfl rfl rfl rfl (K8.out.grown HG9.out (by simp)) K9.out zcD rfl ?_
  exact zg6 PZ.out HG8.out HG9.out ⟨zk2 _ _ _,Nat.le_refl _⟩ (.torn HW.out)
 ·have HW:=hide hw
  clear hw
  obtain ⟨m1,hm1⟩:∃ m,ys.length=m:=⟨_,rfl⟩
  rw [hm1] at Y1 hc1 ⊢
  clear hm1
  go_wp2_with fail
  refine (HRD.out w1 A1 m1 c1 ys Y1.out RW.out HW.out P1.out.bl).mono ?_
  rintro e w2 ⟨p,rv,rs,oa,rfl,hJ2,hat2,hrs2,hb2⟩
  obtain ⟨A2,c2,rfl,hc2,_⟩:=hrs2.shape
  have P2:=hide (P1.out.on hb2)
  have J2:=hide hJ2
  have X2:Hid (zax w2 (w.heap.size+2) w2.heap.size p):=hide (hat2.at_ (fun a b hR=>⟨Nat.le_trans HZ1.out hR.1,hR.2.1⟩))
  have Z2:=hide (hrs2.at_ (n:=rs.length) rfl)
  have Y2:=hide ((Y1.out.below hb2).more (Nat.le_refl _) hb2.size)
  have POB:p.ob.length=16:=X2.out.ob
  have NEW:=hide (Blk.new w2 30 zAtt)
  have HZ2:=hide (Nat.le_trans HZ1.out hb2.size)
  clear hJ2 hat2 hrs2 hb2 Y1 P1
  obtain ⟨m2,hm2⟩:∃ m,rs.length=m:=⟨_,rfl⟩
  have HM2:=hide hm2
  rw [hm2] at Z2 hc2 ⊢
  clear hm2
  go_wp2_with (refine za3 rfl (.tmp 7) (.tmp 26) rfl w2.heap.size rfl p rfl POB NEW.out rfl ?_;intro w3 hb3 hg3;have K3:=hide hb3;have W3:Hid (Below w2.heap.size w2 w3):=hide (((Below.refl _ _).alloc (Nat.le_refl _) _).grown hg3 (by simp) (by simp));clear hb3 hg3;refine Hid.out ?_)
  refine hide ?_
  have P3:=hide (P2.out.on W3.out)
  have X3:=hide (X2.out.below W3.out)
  have Z3:=hide (Z2.out.below W3.out)
  have Y3:=hide ((Y2.out.below W3.out).more (Nat.le_refl _) W3.out.size)
  have HZ3:=hide W3.out.size
  have N3:=hide (HN.out.below P3.out.bl)
  clear P2 X2 Z2 Y2 NEW W3
  by_cases ho:oa=3
  ·subst ho
   go_wp2_with fail
   refine (HSB.out w3 A1 m1 c1 ys Y3.out hc1 RW.out P3.out.bl ⟨_,_,J2.out⟩).mono ?_
   rintro e w4 ⟨sb,rfl,hb4⟩
   have P4:=hide (P3.out.on hb4)
   clear hb4
   go_wp2_with fail
   refine (ziC w4 sb).mono ?_
   rintro e w5 ⟨rfl,hb5⟩
   have PZ:=hide (P4.out.on hb5)
   clear hb5
   go_wp2_with (refine zas rfl (.tmp 2) (.tmp 34) rfl w.heap.size rfl zcY rfl zcD PZ.out.r rfl ?_;intro w8 hb8 hg8;have K8:=hide hb8;have HG8:=hide hg8;have N8:=hide (PZ.out.n.grown hg8 (by simp));clear hb8 hg8;refine Hid.out ?_)
   refine hide ?_
   go_wp2_with (refine zaI rfl (.tmp 4) (.tmp 36) rfl (w.heap.size+1) rfl 3 sb rfl N8.out rfl ?_;intro w9 hb9 hg9;have K9:=hide hb9;have HG9:=hide hg9;clear hb9 hg9;refine Hid.out ?_)
   refine hide ?_
   go_wp2
   refine zeA (c:=2) (q:=3) (d:=4) rfl rfl rfl rfl (K8.out.grown HG9.out (by simp)) K9.out zcD rfl ?_
   exact zg6 PZ.out HG8.out HG9.out ⟨zk2 _ _ _,Nat.le_refl _⟩ (.reset _ _ _ HW.out J2.out)
  ·have HO:=hide ho
   have hob:(oa==3)=false:=beq_eq_false_iff_ne.2 ho
   obtain ⟨j1,j2⟩:=HJ.out _ _ _ J2.out ho
   rw [List.length_map] at j1
   have HV:Hid (∀ x∈rs,x.v.length≤1000000000):=hide (fun x hx=>j2 x.raw (List.mem_map.2 ⟨x,hx,rfl⟩))
   have hm2:m2≤100000:=by rw [← HM2.out];exact j1
   clear ho j1 j2
   go_wp2_with fail
   refine (zoZ w3 w1.heap.size w2.heap.size A2 m2 c2 rs Z3.out HZ3.out hm2 HV.out N3.out).mono ?_
   rintro e w4 ⟨U,rfl,hu4,hup4,hb4⟩
   have P4:=hide (P3.out.on hb4)
   have X4:=hide ((X3.out.below (hb4.mono HZ3.out)).more (Nat.le_refl _) (Nat.le_refl _))
   have K4:=hide (K3.out.over hb4)
   have U4:=hide (hu4.more (lo':=w.heap.size+2) (Nat.le_trans HZ2.out HZ3.out) (Nat.le_refl _))
   have UP:=hide hup4
   have UOB:U.at_.ob.length=16:=hu4.ob
   have HZ4:=hide (Nat.le_trans HZ3.out hb4.size)
   have NEW:=hide (Blk.new w4 33 zUpd)
   clear hu4 hup4 hb4 P3 X3 K3 Y3 Z3 N3
   obtain ⟨ot,hot⟩:∃ o,(tabs (rs.map RawP.raw)).2.2=o:=⟨_,rfl⟩
   have HOT:=hide hot
   rw [hot]
   clear hot
   go_wp2_with (refine zas rfl (.tmp 10) (.tmp 40) rfl w4.heap.size rfl U rfl UOB NEW.out rfl ?_;intro w5 hb5 hg5;have K5:=hide hb5;have W5:Hid (Below w4.heap.size w4 w5):=hide (((Below.refl _ _).alloc (Nat.le_refl _) _).grown hg5 (by simp) (by simp));clear hb5 hg5;refine Hid.out ?_)
   refine hide ?_
   have P5:=hide (P4.out.on W5.out)
   have X5:=hide (X4.out.below (W5.out.mono HZ4.out))
   have KA5:=hide (K4.out.over W5.out)
   have U5:=hide (U4.out.below W5.out)
   have HZ5:=hide K5.out.lt
   have HGB:Hid (w.heap.size+1<w4.heap.size):=hide (by have:=HZ2.out;have:=HZ4.out;omega)
   obtain ⟨gb,hgb⟩:∃ gb,w4.heap.size=gb:=⟨_,rfl⟩
   rw [hgb] at K5 U5 HZ5 HGB HZ4 ⊢
   clear P4 X4 K4 U4 NEW W5 hgb
   obtain ⟨mo,hmo⟩:∃ m,max oa ot=m:=⟨_,rfl⟩
   have HMO:Hid (max oa (tabs (rs.map RawP.raw)).2.2=mo):=hide (by rw [HOT.out];exact hmo)
   by_cases hm3:mo=3
   ·subst hm3
    go_wp2_with fail
    refine (ziC w5 9).mono ?_
    rintro e w6 ⟨rfl,hb6⟩
    have PZ:=hide (P5.out.on hb6)
    clear hb6
    go_wp2_with (refine zas rfl (.tmp 2) (.tmp 49) rfl w.heap.size rfl zcY rfl zcD PZ.out.r rfl ?_;intro w8 hb8 hg8;have K8:=hide hb8;have HG8:=hide hg8;have N8:=hide (PZ.out.n.grown hg8 (by simp));clear hb8 hg8;refine Hid.out ?_)
    refine hide ?_
    go_wp2_with (refine zaI rfl (.tmp 4) (.tmp 51) rfl (w.heap.size+1) rfl 3 9 rfl N8.out rfl ?_;intro w9 hb9 hg9;have K9:=hide hb9;have HG9:=hide hg9;clear hb9 hg9;refine Hid.out ?_)
    refine hide ?_
    go_wp2
    refine zeA (c:=2) (q:=3) (d:=4) rfl rfl rfl rfl (K8.out.grown HG9.out (by simp)) K9.out zcD rfl ?_
    exact zg6 PZ.out HG8.out HG9.out ⟨zk2 _ _ _,Nat.le_refl _⟩ (.table _ _ _ HW.out J2.out HO.out HMO.out)
   ·have HM3:=hide hm3
    by_cases hm2:mo=2
    ·subst hm2
     have RU5:=hide (zah (l:=updL U) K5.out)
     have HTL:=hide (ztk (rs.map RawP.raw))
     have HRN:Hid (U.rn≤1∧U.nn≤1000):=hide (by
      have e1:=congrArg (fun u:Up=>u.re.length) UP.out
      have e2:=congrArg (fun u:Up=>u.un.length) UP.out
      have e3:U.re.length=(tabs (rs.map RawP.raw)).1.length:=by simpa [UpP.up] using e1
      have e4:U.ne.length=(tabs (rs.map RawP.raw)).2.1.length:=by simpa [UpP.up] using e2
      have:=U5.out.re.len
      have:=U5.out.ne.len
      have:=HTL.out
      omega)
     go_wp2_with ((with_reducible refine zat ?_ (.tmp 10) rfl gb 0 rfl U RU5.out UOB ?_);· rfl)
     refine (zuh w5 (w.heap.size+2) gb U U5.out (Nat.le_of_lt HZ5.out) HRN.out.1 HRN.out.2).mono ?_
     rintro e w6 ⟨A6,c6,xs,rfl,hr6,hm6,hc6,ht6,hb6⟩
     have P6:=hide (P5.out.on hb6)
     have K6:=hide (K5.out.over hb6)
     have T6:=hide ht6
     have V6:Hid (UpAt w6 (w.heap.size+2) w6.heap.size (gonV A6 c6 xs)):=hide ⟨zga _ _ _,RowE.nil _ _ _ _,⟨hr6.more (by have:=HZ5.out;have:=HGB.out;omega) (Nat.le_refl _),fun y hy=>mmTb _ _ _ _ _ _ (Nat.le_refl _) (Nat.le_trans (Nat.le_of_lt HZ5.out) hb6.size) (hm6 y hy).1,fun y hy=>(hm6 y hy).2⟩,Nat.le_refl _,hc6⟩
     have VR6:=hide hr6
     have VM6:=hide hm6
     have HC6:=hide hc6
     have HB6:=hide hb6.size
     clear hr6 hm6 hc6 ht6 hb6 P5 K5 RU5
     go_wp2_with (refine zas rfl (.tmp 10) (.tmp 56) rfl gb rfl (gonV A6 c6 xs) rfl rfl K6.out (zgn UOB) ?_;intro w7 hb7 hg7;have K7:=hide hb7;have HG7:=hide hg7;clear hb7 hg7;refine Hid.out ?_)
     refine hide ?_
     have PZ:=hide (P6.out.grown HG7.out HGB.out)
     have HKP:Hid (∀ q:Addr,q.block<w6.heap.size→q.block≠gb→w7.cell? q=w6.cell? q):=hide (fun q h1 h2=>World.cell?_of_block (HG7.out.block q.block h1 (fun e=>by injection e with e;exact h2 e)))
     have VAT:Hid (UpAt w7 (w.heap.size+2) w7.heap.size (gonV A6 c6 xs)∧w7.heap.size≤w7.heap.size):=hide ⟨⟨zga _ _ _,RowE.nil _ _ _ _,⟨(VR6.out.keep (fun q h1 h2=>HKP.out q h2 (by have:=HZ5.out;omega))).more (by have:=HZ5.out;have:=HGB.out;omega) HG7.out.size,fun y hy=>mmTb _ _ _ _ _ _ (Nat.le_refl _) (by have:=HZ5.out;have:=P6.out.bl.size;have:=HG7.out.size;have:=HB6.out;omega) (mkTb _ _ _ _ _ (fun q h1 h2=>HKP.out q (by have:=HB6.out;have:=HZ5.out;omega) (by omega)) (VM6.out y hy).1),fun y hy=>(VM6.out y hy).2⟩,Nat.le_refl _,HC6.out⟩,Nat.le_refl _⟩
     have RGV:=hide (zah (l:=updL (gonV A6 c6 xs)) K7.out)
     have HUP:Hid ((gonV A6 c6 xs).up=⟨zbV,[],(tabs (rs.map RawP.raw)).1.map zpR++(tabs (rs.map RawP.raw)).2.1⟩):=hide (by
      show (⟨zbV,[],xs.map TbP.tb⟩:Up)=_
      rw [T6.out,UP.out])
     go_wp2_with (first
      | ((with_reducible refine zat ?_ (.tmp 10) rfl gb 0 rfl (gonV A6 c6 xs) RGV.out rfl ?_);· rfl)
      | (refine zas rfl (.tmp 2) (.tmp 64) rfl w.heap.size rfl (gonV A6 c6 xs) rfl rfl PZ.out.r rfl ?_;intro w8 hb8 hg8;have K8:=hide hb8;have HG8:=hide hg8;have N8:=hide (PZ.out.n.grown hg8 (by simp));clear hb8 hg8;refine Hid.out ?_))
     refine hide ?_
     go_wp2_with (refine zaI rfl (.tmp 4) (.tmp 66) rfl (w.heap.size+1) rfl 0 0 rfl N8.out rfl ?_;intro w9 hb9 hg9;have K9:=hide hb9;have HG9:=hide hg9;clear hb9 hg9;refine Hid.out ?_)
     refine hide ?_
     go_wp2
     refine zeA (c:=2) (q:=3) (d:=4) rfl rfl rfl rfl (K8.out.grown HG9.out (by simp)) K9.out rfl rfl ?_
     exact zg6 PZ.out HG8.out HG9.out VAT.out (by rw [HUP.out];exact .held _ _ _ HW.out J2.out HO.out HMO.out)
    ·have HM2:=hide hm2
     have c24:w5.cell? ⟨gb,24,none⟩=some (.slice U.rA U.rn U.rc):=by rw [K5.out.cell];unfold updC;simpa using zii UOB
     have HLU:Hid ((tabs (rs.map RawP.raw)).1.length=U.rn):=hide (by
      have e1:=congrArg (fun u:Up=>u.re.length) UP.out
      have e3:U.re.length=(tabs (rs.map RawP.raw)).1.length:=by simpa [UpP.up] using e1
      rw [← e3];exact U5.out.re.len)
     by_cases hr:0<U.rn
     ·have hrI:(0:Int)<(U.rn:Int):=by omega
      have RA5:=hide (zah (l:=attL p) KA5.out)
      go_wp2_with (first
       | ((with_reducible refine zaB ?_ (.tmp 7) rfl w2.heap.size 0 rfl RA5.out POB ?_);· rfl)
       | (refine zhc rfl (.tmp 63) (.tmp 62) rfl gb rfl p rfl POB U K5.out UOB ?_;intro w7 hb7 hg7;have K7:=hide hb7;have HG7:=hide hg7;clear hb7 hg7;refine Hid.out ?_))
      refine hide ?_
      have PZ:=hide (P5.out.grown HG7.out HGB.out)
      have HKP:Hid (∀ q:Addr,q.block<gb→w7.cell? q=w5.cell? q):=hide (fun q h1=>World.cell?_of_block (HG7.out.block q.block (by have:=HZ5.out;omega) (fun e=>by injection e with e;omega)))
      have VAT:Hid (UpAt w7 (w.heap.size+2) gb { U with at_:=p }∧gb≤w7.heap.size):=hide ⟨⟨(X5.out.more (Nat.le_refl _) HZ4.out).keep (fun q h1 h2=>HKP.out q h2),U5.out.re.keep mkTb (fun q h1 h2=>HKP.out q h2),U5.out.ne.keep mkTb (fun q h1 h2=>HKP.out q h2),U5.out.rc,U5.out.nc⟩,by have:=HZ5.out;have:=HG7.out.size;omega⟩
      have RGV:=hide (zah (l:=updL { U with at_:=p }) K7.out)
      have HUP:Hid (UpP.up { U with at_:=p }=⟨p.ats,(tabs (rs.map RawP.raw)).1,(tabs (rs.map RawP.raw)).2.1⟩):=hide (by
       have e:=UP.out
       show (⟨p.ats,U.up.re,U.up.un⟩:Up)=_
       rw [e])
      go_wp2_with (first
       | ((with_reducible refine zat ?_ (.tmp 10) rfl gb 0 rfl { U with at_:=p } RGV.out POB ?_);· rfl)
       | (refine zas rfl (.tmp 2) (.tmp 64) rfl w.heap.size rfl { U with at_:=p } rfl POB PZ.out.r rfl ?_;intro w8 hb8 hg8;have K8:=hide hb8;have HG8:=hide hg8;have N8:=hide (PZ.out.n.grown hg8 (by simp));clear hb8 hg8;refine Hid.out ?_))
      refine hide ?_
      go_wp2_with (refine zaI rfl (.tmp 4) (.tmp 66) rfl (w.heap.size+1) rfl 0 0 rfl N8.out rfl ?_;intro w9 hb9 hg9;have K9:=hide hb9;have HG9:=hide hg9;clear hb9 hg9;refine Hid.out ?_)
      refine hide ?_
      go_wp2
      refine zeA (c:=2) (q:=3) (d:=4) rfl rfl rfl rfl (K8.out.grown HG9.out (by simp)) K9.out POB rfl ?_
      exact zg6 PZ.out HG8.out HG9.out VAT.out (by rw [HUP.out];exact .reach _ _ _ _ HW.out J2.out HO.out HMO.out HM3.out HM2.out (by rw [HLU.out];exact hr))
     ·have hrI:¬ (0:Int)<(U.rn:Int):=by omega
      have PZ:=hide P5.out
      have VAT:Hid (UpAt w5 (w.heap.size+2) gb U∧gb≤w5.heap.size):=hide ⟨U5.out,Nat.le_of_lt HZ5.out⟩
      have RGV:=hide (zah (l:=updL U) K5.out)
      have K7:=hide K5.out
      go_wp2_with (first
       | ((with_reducible refine zat ?_ (.tmp 10) rfl gb 0 rfl U RGV.out UOB ?_);· rfl)
       | (refine zas rfl (.tmp 2) (.tmp 64) rfl w.heap.size rfl U rfl UOB PZ.out.r rfl ?_;intro w8 hb8 hg8;have K8:=hide hb8;have HG8:=hide hg8;have N8:=hide (PZ.out.n.grown hg8 (by simp));clear hb8 hg8;refine Hid.out ?_))
      refine hide ?_
      go_wp2_with (refine zaI rfl (.tmp 4) (.tmp 66) rfl (w.heap.size+1) rfl 0 0 rfl N8.out rfl ?_;intro w9 hb9 hg9;have K9:=hide hb9;have HG9:=hide hg9;clear hb9 hg9;refine Hid.out ?_)
      refine hide ?_
      go_wp2
      refine zeA (c:=2) (q:=3) (d:=4) rfl rfl rfl rfl (K8.out.grown HG9.out (by simp)) K9.out UOB rfl ?_
      exact zg6 PZ.out HG8.out HG9.out VAT.out (by rw [UP.out];exact .none _ _ _ _ HW.out J2.out HO.out HMO.out HM3.out HM2.out (by rw [HLU.out];omega))
end
section
open Go.RowKit
theorem zwL (L:Nat):be 2 L=[UInt8.ofNat (L/256%256),UInt8.ofNat (L%256)]:=rfl
theorem zp8 (J:List UInt8) (h:J.length<65536):ownB (0::0::(be 2 J.length++J))=J∧badB (0::0::(be 2 J.length++J))=false:=by
 obtain ⟨a1,a2,a3⟩:=ziP 0 0 (be 2 J.length++J)
 have e1:spN (0::0::(be 2 J.length++J))=0:=a1
 have hs0:zbf (be 2 J.length++J) ((0:Nat):Int)=true:=by unfold zbf;simp;omega
 have e2:spR (0::0::(be 2 J.length++J))=be 2 J.length++J:=by
  unfold spR
  rw [e1,a2]
  unfold zae
  rw [if_pos hs0]
  rfl
 have e3:be 2 J.length++J=UInt8.ofNat (J.length/256%256)::UInt8.ofNat (J.length%256)::J:=by rw [zwL];rfl
 obtain ⟨b1,b2,b3⟩:=ziP (UInt8.ofNat (J.length/256%256)) (UInt8.ofNat (J.length%256)) J
 have e4:spM (0::0::(be 2 J.length++J))=J.length:=by
  unfold spM
  rw [e2,e3,b1]
  simp
  omega
 have hs1:zbf J ((J.length:Nat):Int)=true:=by unfold zbf;simp
 refine ⟨?_,?_⟩
 ·unfold ownB
  rw [e4,e2,e3,b2]
  exact zig J
 ·unfold badB
  rw [e4,e2,e1,a2,a3,hs0,e3,b2,b3,hs1]
  rfl
theorem zp7 {l:List Rw} (h:zeX l=0) (hl:(zdY l).length<65536):zdN (0::0::(be 2 (zdY l).length++zdY l))=true∧(zdu (ownB (0::0::(be 2 (zdY l).length++zdY l)))).1=l:=by
 obtain ⟨h1,h2⟩:=zp8 (zdY l) hl
 unfold zdN
 rw [h1,h2,zo1 h]
 exact ⟨rfl,rfl⟩
set_option maxHeartbeats 1000000 in
theorem zlo (w:World) (lo hi:Nat) (A:Option Addr) (n c:Nat) (b:List UInt8) (h:At w lo hi A n b) (hh:hi≤w.heap.size) (hn:n≤140737488355328) (hN:zaQ w) (hK:zc3 w) (its:List Item) (rts:List Rw)
  (hw:zdN b=true) (hraws:(zdu (ownB b)).1=its.map Item.rw++rts) (hlen:(its.map Item.rw++rts).length≤100000) (hd:((its.map Item.rw++rts).map Rw.k).Pairwise (· ≠ ·)) (hrt:∀ y∈rts,(y.k=14∨y.k=15)∧y.f=128) (hok:∀ i∈its,i.Ok) (hS:∀ i∈its,∀ a0,zcP i a0) (hv:∀ x∈its.map Item.rw++rts,x.v.length≤800000)
  (hfin:∀ l:List RawP,l.map RawP.raw=its.map Item.rw++rts→finO l 0=0) :
  Calls Tryz.prog 11 #[.slice A n c] w (zjf w b (fun a l' o=>a=zdv its zbV∧l'=rts∧o=0)):=by
 refine zoO w lo hi A n c b h hh hn hN _ ?_ ?_ ?_
 ·rintro a rest o ⟨_,rfl,_⟩ _
  refine ⟨?_,fun x hx=>?_⟩
  ·rw [List.length_append] at hlen;omega
  ·have:=hv x (List.mem_append.2 (.inr hx));omega
 ·intro wr A' n' c' ys hys hraw _ hb
  rw [hraws] at hraw
  have hl:ys.length=n':=hys.len
  have hlm:=congrArg List.length hraw
  rw [List.length_map] at hlm
  refine (zri wr _ _ A' n' c' ys hys (Nat.le_refl _) (by omega) (hK.below hb) its rts hraw ?_ hrt hok hS (fun x hx=>hv x.raw (by rw [← hraw];exact List.mem_map.2 ⟨x,hx,rfl⟩))).mono ?_
  ·have e:ys.map RawP.k=(its.map Item.rw++rts).map Rw.k:=by rw [← hraw,List.map_map];rfl
   rw [e];exact hd
  ·intro e w' hg
   refine hg.mono ?_
   rintro a l' o ⟨h1,h2,h3⟩
   exact ⟨h1,h2,h3.trans (hfin ys hraw)⟩
 ·rintro wr A' n' c' ys _ _ _ _ ⟨a,rest,_,_,h3⟩
  cases h3
structure UpW (u:Up):Prop where
 at_:u.at_.W
 re:∀ t∈u.re,t.W
 un:∀ t∈u.un,t.W
theorem zo7 {a b:Ats} (h:zdk a b=true):a=b:=by
 unfold zdk at h
 simp only [Bool.and_eq_true,decide_eq_true_eq] at h
 obtain ⟨h1,h2,h3,⟨h4,h5⟩,h6,h7,h8,h9⟩:=h
 cases a;cases b
 simp_all
theorem zfF {ok:Tb→Bool} {l:List Tb} (h:fewT ok l=true):l=[]∨∃ t,l=[t]∧ok t=true:=by
 unfold fewT at h
 rw [Bool.and_eq_true] at h
 match l,h with
 | [],_=>exact .inl rfl
 | [t],h=>exact .inr ⟨t,rfl,by simpa using h.2⟩
 | _::_::_,h=>simp at h
theorem zom {t:Tb} (h:zc8 t=true):zaY true t=true∧hasT t=true:=by
 unfold zc8 at h
 rw [Bool.and_eq_true] at h
 exact h
def itsU (u:Up):List Item:=if u.re.length=0 then [] else zcc u.at_
def rtsU (u:Up):List Rw:=u.re.map zru++u.un.map zm4
theorem zjb (u:Up):zce u=(itsU u).map Item.rw++rtsU u:=by
 unfold zce preR itsU rtsU
 by_cases h:u.re.length=0
 ·rw [if_pos h,if_pos h,List.eq_nil_of_length_eq_zero h]
  rfl
 ·rw [if_neg h,if_neg h,List.take_length]
  unfold zeZ
  rw [List.append_assoc]
theorem ztj {u:Up} (w:UpW u) (hr:zcv u=true):tabs (rtsU u)=(u.re,u.un,0):=by
 unfold zcv at hr
 simp only [Bool.and_eq_true] at hr
 obtain ⟨_,h2,h3,_⟩:=hr
 unfold rtsU
 have w1:=w.re
 have w2:=w.un
 rcases zfF h2 with e1 | ⟨t,e1,ht⟩ <;> rcases zfF h3 with e2 | ⟨s,e2,hs⟩ <;> rw [e1] at w1 <;> rw [e2] at w2 <;> rw [e1,e2]
 ·rfl
 ·have hW:=w2 s (by simp)
  simp [tabs,zcn,zm4,zkC hW hs (by simp),ziH hW hs]
 ·have hW:=w1 t (by simp)
  obtain ⟨g1,g2⟩:=zom ht
  simp [tabs,zcn,zru,zkC hW g1 (fun _=>g2),ziH hW g1]
 ·have hW:=w1 t (by simp)
  obtain ⟨g1,g2⟩:=zom ht
  have hW2:=w2 s (by simp)
  simp [tabs,zcn,zru,zm4,zkC hW g1 (fun _=>g2),ziH hW g1,zkC hW2 hs (by simp),ziH hW2 hs]
theorem zpI (i:Item):zeS i.kind=true:=by cases i <;> rfl
theorem zlB (u:Up):∀ y∈rtsU u,(y.k=14∨y.k=15)∧y.f=128:=by
 intro y hy
 rcases List.mem_append.1 hy with hy | hy
 ·obtain ⟨t,_,rfl⟩:=List.mem_map.1 hy
  exact ⟨.inl rfl,rfl⟩
 ·obtain ⟨t,_,rfl⟩:=List.mem_map.1 hy
  exact ⟨.inr rfl,rfl⟩
theorem znh {u:Up} (hr:zcv u=true):(((itsU u).map Item.rw++rtsU u).map Rw.k).Pairwise (· ≠ ·):=by
 unfold zcv at hr
 simp only [Bool.and_eq_true] at hr
 obtain ⟨_,h2,h3,_⟩:=hr
 rw [List.map_append,List.pairwise_append]
 refine ⟨?_,?_,?_⟩
 ·have e:((itsU u).map Item.rw).map Rw.k=(itsU u).map Item.kind:=by rw [List.map_map];rfl
  rw [e,List.pairwise_map]
  unfold itsU
  split
  ·exact List.Pairwise.nil
  ·exact (zpK u.at_).imp (fun h=>by omega)
 ·unfold rtsU
  rcases zfF h2 with e1 | ⟨t,e1,ht⟩ <;> rcases zfF h3 with e2 | ⟨s,e2,hs⟩ <;> rw [e1,e2] <;> simp [zru,zm4]
 ·intro a ha b hb
  obtain ⟨x,hx,rfl⟩:=List.mem_map.1 ha
  obtain ⟨i,_,rfl⟩:=List.mem_map.1 hx
  obtain ⟨y,hy,rfl⟩:=List.mem_map.1 hb
  have h4:=zpI i
  have h5:=(zlB u y hy).1
  unfold zeS at h4
  simp only [decide_eq_true_eq] at h4
  show i.kind≠y.k
  omega
theorem zul {u:Up} {l:List RawP} (h:l.map RawP.raw=(itsU u).map Item.rw++rtsU u):finO l 0=0:=by
 unfold finO
 refine if_neg ?_
 rintro ⟨h1,h2⟩
 have hmem:∀ (K:Int) (r:Rw),r∈(itsU u).map Item.rw++rtsU u→r.k=K→0<cntK K l:=fun K r hr hk=>by
  rw [← h] at hr
  obtain ⟨x,hx,e⟩:=List.mem_map.1 hr
  refine List.length_pos_of_mem (a:=x) (List.mem_filter.2 ⟨hx,decide_eq_true ?_⟩)
  rw [← hk,← e];rfl
 by_cases hr:u.re.length=0
 ·have e1:u.re=[]:=List.eq_nil_of_length_eq_zero hr
  have:cntK 14 l=0:=by
   unfold cntK
   rw [List.length_eq_zero_iff,List.filter_eq_nil_iff]
   intro x hx
   have h3:x.raw∈(itsU u).map Item.rw++rtsU u:=by rw [← h];exact List.mem_map.2 ⟨x,hx,rfl⟩
   unfold itsU rtsU at h3
   rw [if_pos hr,e1] at h3
   simp at h3
   obtain ⟨t,_,h4⟩:=h3
   have h5:x.k=15:=by have:=congrArg Rw.k h4;exact this.symm
   simp [h5]
  omega
 ·have hi:∀ i,i∈zcc u.at_→i.rw∈(itsU u).map Item.rw++rtsU u:=fun i hi=>by
   refine List.mem_append.2 (.inl (List.mem_map.2 ⟨i,?_,rfl⟩))
   unfold itsU
   rw [if_neg hr];exact hi
  have g1:=hmem 1 _ (hi (.origin u.at_.o) (by unfold zcc;simp)) rfl
  have g2:=hmem 2 _ (hi (.path u.at_.path) (by unfold zcc;simp)) rfl
  omega
theorem zvw {a:Ats} {t:Tun} (h:Item.tun t∈zcc a):t∈a.tn:=by
 unfold zcc at h
 simp only [List.mem_append,List.mem_cons,List.not_mem_nil,or_false] at h
 rcases h with (h | h) | h | h | h | h | h | h
 ·cases h
 ·cases h
 ·split at h
  ·rw [List.mem_singleton] at h;cases h
  ·cases h
 ·split at h
  ·rw [List.mem_singleton] at h;cases h
  ·cases h
 ·split at h
  ·rw [List.mem_singleton] at h;cases h
  ·cases h
 ·split at h
  ·cases h
  ·rw [List.mem_singleton] at h;cases h
 ·split at h
  ·cases h
  ·rw [List.mem_singleton] at h;cases h
 ·cases ht:a.tn with
  | nil=>rw [ht] at h;cases h
  | cons x r =>
   rw [ht] at h
   have h1:Item.tun t=Item.tun x:=List.mem_singleton.1 h
   injection h1 with h1
   rw [h1]
   exact List.mem_cons_self
theorem zqM {a:Ats} (hw:a.W) (hr:zdW a) (hid:∀ t∈a.tn,t.id.length≤1024) (hv:∀ i∈zcc a,i.value.length≤4096):∀ i∈zcc a,∀ a0,zcP i a0:=by
 intro i hi a0
 have hok:=zow hw hr i hi
 have hv:=hv i hi
 cases i with
 | origin o =>
  obtain ⟨h1,h2⟩:=hok
  obtain ⟨O,rfl⟩:∃ O:Nat,o=(O:Int):=⟨o.toNat,by omega⟩
  exact zmO O (by omega) a0
 | path p=>exact zqO p hok a0
 | med m =>
  obtain ⟨h1,h2⟩:=hok
  obtain ⟨O,rfl⟩:∃ O:Nat,m=(O:Int):=⟨m.toNat,by omega⟩
  exact ztq O (by omega) a0
 | pref m =>
  obtain ⟨h1,h2⟩:=hok
  obtain ⟨O,rfl⟩:∃ O:Nat,m=(O:Int):=⟨m.toNat,by omega⟩
  exact zqN O (by omega) a0
 | orig s b=>exact zqP s b hok.1 hok.2 a0
 | clus l=>exact zqR l hok.2.1 hok.2.2.1 hok.2.2.2 hok.1 a0
 | exts l=>exact zqQ l hok.2 hok.1 a0
 | tun t=>exact ztp t hok.1 hok.2 (by have:=hid t (zvw hi);omega) (Nat.le_trans (show (zb7 t).length≤4096 from hv) (by decide)) a0
theorem zj5 {u:Up} (h:zgf u=0):zcv u=true∧zeX (zce u)=0∧(zdY (zce u)).length≤4073∧zkH u=zja u:=by
 have ho:zkH u=zja u:=if_pos h
 unfold zgf at h
 split at h
 ·cases h
 ·rename_i h1
  split at h
  ·rename_i h2;exact absurd h h2
  ·rename_i h2
   split at h
   ·cases h
   ·exact ⟨by cases hq:zcv u;exact absurd hq h1;rfl,by simpa using h2,by omega,ho⟩
theorem znt {x:Rw} (h:zbC x=0):x.v.length≤4096:=by
 unfold zbC at h
 split at h
 ·cases h
 ·split at h
  ·cases h
  ·omega
theorem znj {l:List Rw} (h:zeX l=0):l.length≤64∧∀ x∈l,x.v.length≤4096:=by
 unfold zeX at h
 split at h
 ·cases h
 ·exact ⟨by omega,fun x hx=>znt (zcy.1 h x hx)⟩
def zuP (w:World) (u:Up) (e:Ending) (w':World):Prop :=
 ∃ U:UpP,e = .returned (.tuple #[.agg (updC U),.int .i64 0,.agg (zgA 0 0)])∧UpAt w' w.heap.size w'.heap.size U∧U.up=u∧Below w.heap.size w w'
theorem zeh (w:World) (lo hi:Nat) (A:Option Addr) (n c:Nat) (u:Up) (hW:UpW u) (hid:∀ t∈u.at_.tn,t.id.length≤1024) (he:zgf u=0) (h:At w lo hi A n (zja u)) (hh:hi≤w.heap.size) (hn:n≤140737488355328) (hN:zaQ w) (hK:zc3 w) :
  Calls Tryz.prog 11 #[.slice A n c] w (zuP w u):=by
 obtain ⟨hr,hj,hl,_⟩:=zj5 he
 obtain ⟨hlen,hval⟩:=znj hj
 obtain ⟨hw,hraws⟩:=zp7 hj (by omega)
 rw [zjb] at hlen hval
 have hr':=hr
 unfold zcv at hr'
 simp only [Bool.and_eq_true] at hr'
 have hat:=(zf7 u.at_).1 hr'.1
 have hin:∀ i∈itsU u,i∈zcc u.at_:=fun i hi=>by
  unfold itsU at hi
  split at hi
  ·cases hi
  ·exact hi
 refine (zlo w lo hi A n c (zja u) h hh hn hN hK (itsU u) (rtsU u) hw (hraws.trans (zjb u)) (by omega) (znh hr) (zlB u) (fun i hi=>zow hW.at_ hat i (hin i hi)) ?_ (fun x hx=>by have:=hval x hx;omega) (fun l hl=>zul hl)).mono ?_
 ·intro i hi
  have hne:¬ u.re.length=0:=fun e=>by unfold itsU at hi;rw [if_pos e] at hi;cases hi
  have hv2:∀ j∈zcc u.at_,j.value.length≤4096:=fun j hj=>hval j.rw (List.mem_append.2 (.inl (List.mem_map.2 ⟨j,by unfold itsU;rw [if_neg hne];exact hj,rfl⟩)))
  exact zqM hW.at_ hat hid hv2 i (hin i hi)
 ·rintro e w' ⟨U,o,nc,ns,rfl,hu,ho,hb⟩
  have ht:=ztj hW hr
  have key:U.up=u∧o=0∧nc=0∧ns=0:=by
   generalize hU:U.up=V at ho
   cases ho with
   | torn h1=>exact absurd (hw.symm.trans h1) (by decide)
   | reset a rest s _ h2=>exact absurd h2.2.2 (by decide)
   | table a rest o _ h2 _ h4 =>
    obtain ⟨_,rfl,rfl⟩:=h2
    rw [ht] at h4
    exact absurd (show max (0:Int) 0=3 from h4) (by decide)
   | held a rest o _ h2 _ h4 =>
    obtain ⟨_,rfl,rfl⟩:=h2
    rw [ht] at h4
    exact absurd (show max (0:Int) 0=2 from h4) (by decide)
   | reach a rest o m _ h2 _ h4 _ _ h7 =>
    obtain ⟨rfl,rfl,rfl⟩:=h2
    rw [ht] at h4 h7 ⊢
    have hne:¬ u.re.length=0:=by have:0<u.re.length:=h7;omega
    refine ⟨?_,h4.symm,rfl,rfl⟩
    unfold itsU
    rw [if_neg hne,zo4 hat]
   | none a rest o m _ h2 _ h4 _ _ h7 =>
    obtain ⟨rfl,rfl,rfl⟩:=h2
    rw [ht] at h4 h7 ⊢
    refine ⟨?_,h4.symm,rfl,rfl⟩
    have h8:=hr'.2.2.2
    rw [Bool.or_eq_true] at h8
    have e0:u.re.length=0:=h7
    rcases h8 with h8 | h8
    ·have:=of_decide_eq_true h8;omega
    ·rw [← zo7 h8]
  obtain ⟨k1,rfl,rfl,rfl⟩:=key
  exact ⟨U,rfl,hu,k1,hb⟩
end
end Go.Proofs.YtookpplebikfnaaGreatDoor
