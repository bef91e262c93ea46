/-
  How an update is read: split, reset, Parse of package update, in whatever memory, given what attr.Read and subOf do there. The one condition beyond sizes that fit memory: the program's table holds what its text lays.
-/
import Derived.Test.YtjindligkhdddaaGreatDoorSDBM
set_option linter.unusedVariables false
set_option linter.unusedSimpArgs false
namespace Go.Proofs.YtjindligkhdddaaGreatDoor
section
set_option maxRecDepth 20000
open Go.RowKit
def spN (b:List UInt8):Nat:=zan b 2
def spR (b:List UInt8):List UInt8:=zae (zaf b 2) (spN b:Nat)
def spM (b:List UInt8):Nat:=zan (spR b) 2
def ownB (b:List UInt8):List UInt8:=zab (zaf (spR b) 2) (spM b:Nat)
def badB (b:List UInt8):Bool:=!za7 b 2||!zaY (zaf b 2) (spN b:Nat)||!za7 (spR b) 2||!zaY (zaf (spR b) 2) (spM b:Nat)
def zeM (b:List UInt8):Bool:=decide ((zdk (ownB b)).2=0)&&!badB b
def zra (w:World) (b:List UInt8) (e:Ending) (w':World):Prop :=
 ∃ v xs,e = .returned (.tuple #[v,.bool (zeM b)])∧zaD w' w.heap.size 175 5 v xs∧xs.map RawP.raw=(zdk (ownB b)).1∧Below w.heap.size w w'
theorem zkf (b:List UInt8):zan b 2<9223372036854775808:=by
 unfold zan
 split
 ·have h1:=zfb (zab b 2)
  have h2:(zab b 2).length≤2:=by
   unfold zab
   split
   ·rw [List.length_take];exact Nat.min_le_left _ _
   ·simp
  have h3:256^(zab b 2).length≤256^2:=Nat.pow_le_pow_right (by decide) h2
  omega
 ·decide
set_option maxHeartbeats 2000000 in
theorem zpy (w:World) (lo hi:Nat) (A:Option Addr) (n c:Nat) (b:List UInt8) (h:At w lo hi A n b) (hh:hi≤w.heap.size) (hn:n≤140737488355328) :
  Calls Tryz.prog 71 #[.slice A n c] w (zra w b):=by
 have H:=hide h
 clear h
 go_enter Tryz.func71,Tryz.ntmps71
 go_wp2_with fail
 refine (zbt w lo hi A n c b H.out hh hn).mono ?_
 rintro e w1 ⟨g,rfl,hg,hr1,hb1⟩
 have R1:=hide hr1
 have B1:=hide hb1
 have HG:=hide hg
 clear hr1 hb1 hg
 go_wp2_with fail
 refine (zaW w1 _ g b false R1.out 2 (by decide)).mono ?_
 rintro e w2 ⟨rfl,hr2,hg2⟩
 have R2:=hide hr2
 have B2:=hide (B1.out.grown hg2 B1.out.size (fun k hk=>by injection hk with hk;have:=HG.out;omega))
 have HN:Hid ((zan b 2:Nat)=spN b):=hide rfl
 have wn:(Lit.int .i64 ((spN b:Nat):Int)).wf=true:=zcw (zkf b)
 rw [HN.out]
 clear hr2 hg2 R1 B1
 go_wp2_with fail
 refine (zaR w2 _ g _ _ R2.out _ wn).mono ?_
 rintro e w3 ⟨v3,rfl,_,hr3,hg3⟩
 have R3:Hid (Rd w3 w.heap.size g (spR b) _):=hide hr3
 have B3:=hide (B2.out.grown hg3 B2.out.size (fun k hk=>by injection hk with hk;have:=HG.out;omega))
 clear hr3 hg3 R2 B2
 go_wp2_with fail
 refine (zaW w3 _ g (spR b) _ R3.out 2 (by decide)).mono ?_
 rintro e w4 ⟨rfl,hr4,hg4⟩
 have R4:=hide hr4
 have B4:=hide (B3.out.grown hg4 B3.out.size (fun k hk=>by injection hk with hk;have:=HG.out;omega))
 have HM:Hid ((zan (spR b) 2:Nat)=spM b):=hide rfl
 have wm:(Lit.int .i64 ((spM b:Nat):Int)).wf=true:=zcw (zkf (spR b))
 rw [HM.out]
 clear hr4 hg4 R3 B3
 go_wp2_with fail
 refine (zaR w4 _ g _ _ R4.out _ wm).mono ?_
 rintro e w5 ⟨v5,rfl,ho5,hr5,hg5⟩
 have ho5':w5.ownsRow w4.heap.size 5 1 v5 (ownB b).length (bvs (ownB b)):=ho5
 obtain ⟨A5,c5,rfl,_,_⟩:=zag ho5'
 have O5:=hide (At.own ho5')
 have R5:Hid (Rd w5 w.heap.size g _ (badB b)):=hide hr5
 have B5:=hide (B4.out.grown hg5 B4.out.size (fun k hk=>by injection hk with hk;have:=HG.out;omega))
 have hl5:(ownB b).length≤140737488355328:=by
  have h9:=R4.out.len
  unfold ownB zab
  split
  ·rw [List.length_take];omega
  ·simp
 clear ho5 ho5' hr5 hg5 R4 B4
 go_wp2_with fail
 refine (zrL w5 _ _ A5 _ c5 (ownB b) O5.out (Nat.le_refl _) hl5).mono ?_
 have HW:Hid (zeM b=(decide ((zdk (ownB b)).2=0)&&!badB b)):=hide rfl
 unfold zeh
 generalize (zdk (ownB b)).2=er at *
 rintro e w6 ⟨v6,ys,rfl,ho6,hr6,hb6⟩
 obtain ⟨A6,c6,rfl,_,_⟩:=ho6.shape
 have O6:=hide ho6
 have W6:=hide hr6
 have R6:=hide (R5.out.below hb6 R5.out.lt)
 have B6:=hide (zaa B5.out hb6 (Nat.le_refl _))
 clear ho6 hr6 hb6 R5 O5
 by_cases he:er=0
 ·subst he
  go_wp2_with fail
  refine (R6.out.bad).mono ?_
  rintro e w7 ⟨rfl,rfl⟩
  go_wp2
  go_ret2
  exact ⟨_,ys,by rw [HW.out];rfl,O6.out.more B5.out.size,W6.out,B6.out⟩
 ·have heb:(er==0)=false:=beq_eq_false_iff_ne.2 he
  have HE:Hid (zeM b=false):=hide (by rw [HW.out,decide_eq_false he];rfl)
  clear he
  go_wp2
  go_ret2
  exact ⟨_,ys,by rw [HE.out];rfl,O6.out.more B5.out.size,W6.out,B6.out⟩
def zgZ (k s:Int):Array Value:=#[.int .i64 k,.int .i64 s,.slice none 0 0]
theorem zbg {ops:Array Oper} {rest:List Oper} {o:Oper} {a:Act} {w:World} {Q:Exit→Act→World→Prop} (hgd:o.guard=none) (x y:Operand) (ho:o.op = .store 30 x y) (g:Nat) (hx:a.eval x = .pointer (some ⟨g,0,none⟩)) (k s:Int) (hy:a.eval y = .agg (zgZ k s)) {t:TypeId} {old:Array Value} (h:Blk w g t old) (hold:old.size=3)
  (hk:∀ w',Blk w' g t (zgZ k s)→w.grownBy w' (some g)→wpList Tryz.prog ops Q rest (a.put o.dst undef) w'):wpList Tryz.prog ops Q (o::rest) a w :=
 wpList_store_row hgd 30 x y ho g (zgZ k s) hx hy t old h (by show _=some 3;kernel_rfl) (by rw [hold];rfl) (by simp [zgZ,Value.oneCell']) (hk _ (h.setRow _) (zav _ _ _))
theorem zs1 {w:World} {g:Nat} {t:TypeId} {k s:Int} (h:Blk w g t (zgZ k s)):(loadVar 30 ⟨g,0,none⟩).run Tryz.prog w = .ok (.agg (zgZ k s)) w :=
 run_loadVar_mid w g 0 30 [.int .i64 k,.int .i64 s,.slice none 0 0] _ (zah (l:=[.int .i64 k,.int .i64 s,.slice none 0 0]) h) Tryz.underlying30 rfl (by show _=some 3;kernel_rfl)
theorem zen {fn:Func} {R:Ending→World→Prop} {a:Act} {w:World} {c q d:Tmp} {g gn:Nat} {t tn:TypeId} {u:UpP} {v:Value} {k s:Int} (hf:fn.results=#[.cell c 52,.tmp q,.cell d 30])
  (hp:a.tmps.getD c undef = .pointer (some ⟨g,0,none⟩)) (hq:a.tmps.getD q undef=v) (hn:a.tmps.getD d undef = .pointer (some ⟨gn,0,none⟩)) (h:Blk w g t (updC u)) (h':Blk w gn tn (zgZ k s)) (hl:u.at_.ob.length=16) (hd:a.defers=[]) (hR:R (.returned (.tuple #[.agg (updC u),v,.agg (zgZ k s)])) w) :
  bodyPost Tryz.prog fn R .ret a w:=by
 refine bodyPost_ret (v:=.tuple #[.agg (updC u),v,.agg (zgZ k s)]) ?_ hd hR
 have hp':a.tmps[c]?.getD undef = .pointer (some ⟨g,0,none⟩):=by simpa using hp
 have hq':a.tmps[q]?.getD undef=v:=by simpa using hq
 have hn':a.tmps[d]?.getD undef = .pointer (some ⟨gn,0,none⟩):=by simpa using hn
 simp [results,hf,hp',hq',hn',asAddr,zk6 (zah (l:=updL u) h) hl,zs1 h']
abbrev zpr:Array Value:=#[.int .i64 0,.int .i64 0,.slice none 0 0]
theorem ziG (w:World) (s:Int):Calls Tryz.prog 72 #[.int .i64 s] w fun e w'=>e = .returned (.tuple #[.agg (updC zdl),.int .i64 3,.agg (zgZ 3 s)])∧Below w.heap.size w w':=by
 have N0:=hide ((Blk.new w 52 zUpd).alloc (.cells zpr 30))
 have e1:(w.alloc (.cells zUpd 52)).heap.size=w.heap.size+1:=by simp
 have M0:=Blk.new (w.alloc (.cells zUpd 52)) 30 zpr
 rw [e1] at M0
 have W0:Hid (Below w.heap.size w ((w.alloc (.cells zUpd 52)).alloc (.cells zpr 30))):=hide (((Below.refl _ _).alloc (Nat.le_refl _) _).alloc (by rw [e1];omega) _)
 have MM0:=hide M0
 clear M0 e1
 go_enter Tryz.func72,Tryz.ntmps72
 go_wp2_with fail
 refine (zgN _).mono ?_
 rintro e w1 ⟨rfl,hb1⟩
 have N1:=hide (N0.out.over hb1)
 have M1:=hide (MM0.out.over hb1)
 have W1:=hide (zaa W0.out hb1 (by simp))
 clear hb1 N0 W0 MM0
 go_wp2_with (first
  | (refine zaH rfl (.tmp 2) (.tmp 5) rfl w.heap.size rfl zdl rfl zcD N1.out rfl ?_;intro w2 hb2 hg2;have K2:=hide hb2;have G2:=hide hg2;have M2:=hide (M1.out.grown hg2 (by simp));clear hb2 hg2;refine Hid.out ?_))
 refine hide ?_
 go_wp2_with (refine zbg rfl (.tmp 4) (.tmp 7) rfl (w.heap.size+1) rfl 3 s rfl M2.out rfl ?_;intro w3 hb3 hg3;have K3:=hide hb3;have G3:=hide hg3;clear hb3 hg3;refine Hid.out ?_)
 refine hide ?_
 go_wp2
 refine zen (c:=2) (q:=3) (d:=4) rfl rfl rfl rfl (K2.out.grown G3.out (by simp)) K3.out zcD rfl ?_
 exact ⟨rfl,(W1.out.grown G2.out W1.out.size (fun g hg=>by injection hg with hg;omega)).grown G3.out (by have:=W1.out.size;have:=G2.out.size;omega) (fun g hg=>by injection hg with hg;omega)⟩
def zjb:Up:=⟨zeV,[],[]⟩
inductive zdw (b:List UInt8) (J:Ats→List Rw→Int→Prop):Up→Int→Int→Int→Prop where
 | torn:zeM b=false→zdw b J zjb 3 3 1
 | reset (a:Ats) (rest:List Rw) (s:Int):zeM b=true→J a rest 3→zdw b J zjb 3 3 s
 | table (a:Ats) (rest:List Rw) (o:Int):zeM b=true→J a rest o→o≠3→max o (tabs rest).2.2=3→zdw b J zjb 3 3 9
 | held (a:Ats) (rest:List Rw) (o:Int):zeM b=true→J a rest o→o≠3→max o (tabs rest).2.2=2→zdw b J ⟨zeV,[],(tabs rest).1.map zi4++(tabs rest).2.1⟩ 2 0 0
 | reach (a:Ats) (rest:List Rw) (o m:Int):zeM b=true→J a rest o→o≠3→max o (tabs rest).2.2=m→m≠3→m≠2→0<(tabs rest).1.length→zdw b J ⟨a,(tabs rest).1,(tabs rest).2.1⟩ m 0 0
 | none (a:Ats) (rest:List Rw) (o m:Int):zeM b=true→J a rest o→o≠3→max o (tabs rest).2.2=m→m≠3→m≠2→(tabs rest).1.length=0→zdw b J ⟨zeV,(tabs rest).1,(tabs rest).2.1⟩ m 0 0
def zm5 (w:World) (b:List UInt8) (J:Ats→List Rw→Int→Prop) (e:Ending) (w':World):Prop :=
 ∃ (U:UpP) (o nc ns:Int),e = .returned (.tuple #[.agg (updC U),.int .i64 o,.agg (zgZ nc ns)])∧UpAt w' w.heap.size w'.heap.size U∧zdw b J U.up o nc ns∧Below w.heap.size w w'
theorem zkQ (r:Bool) (b:List UInt8):(rdL r b).length≤1:=by
 unfold rdL
 split <;> simp
theorem zuq (l:List Rw):(tabs l).1.length≤1∧(tabs l).2.1.length≤1:=by
 have h:∀ (l:List Rw) (s:List Tb × List Tb × Int),s.1.length≤1∧s.2.1.length≤1→(l.foldl zch s).1.length≤1∧(l.foldl zch s).2.1.length≤1:=by
  intro l
  induction l with
  | nil=>exact fun s hs=>hs
  | cons x r ih =>
   intro s hs
   refine ih _ ?_
   unfold zch
   split
   ·exact ⟨zkQ _ _,hs.2⟩
   ·split
    ·exact ⟨hs.1,zkQ _ _⟩
    ·exact hs
 exact h l _ ⟨Nat.zero_le _,Nat.zero_le _⟩
structure PrsS (w y:World):Prop where
 r:Blk y w.heap.size 52 zUpd
 n:Blk y (w.heap.size+1) 30 zpr
 bl:Below w.heap.size w y
theorem PrsS.on {w y z:World} (h:PrsS w y) (hb:Below y.heap.size y z):PrsS w z:=⟨h.r.over hb,h.n.over hb,zaa h.bl hb (Nat.le_refl _)⟩
theorem PrsS.grown {w y z:World} {g:Nat} (h:PrsS w y) (hg:y.grownBy z (some g)) (hq:w.heap.size+1<g):PrsS w z :=
 ⟨h.r.grown hg (by simp;omega),h.n.grown hg (by simp;omega),h.bl.grown hg h.bl.size (fun k hk=>by injection hk;omega)⟩
theorem zln (w:World) (lo hi:Nat):UpAt w lo hi zdl:=⟨ziT _ _ _,RowE.nil _ _ _ _,RowE.nil _ _ _ _,Nat.le_refl _,Nat.le_refl _⟩
theorem zgX {w y y1 y2:World} {b:List UInt8} {J:Ats→List Rw→Int→Prop} {V:UpP} {hi:Nat} {o nc ns:Int} (h:PrsS w y) (h1:y.grownBy y1 (some w.heap.size)) (h2:y1.grownBy y2 (some (w.heap.size+1))) (hv:UpAt y (w.heap.size+2) hi V∧hi≤y.heap.size) (ho:zdw b J V.up o nc ns) :
  zm5 w b J (.returned (.tuple #[.agg (updC V),.int .i64 o,.agg (zgZ nc ns)])) y2:=by
 have e1:=h1.size
 have e2:=h2.size
 refine ⟨V,o,nc,ns,rfl,(hv.1.keep (fun q q1 q2=>?_)).more (by omega) (by have:=hv.2;omega),ho,?_⟩
 ·rw [World.cell?_of_block (h2.block q.block (by have:=hv.2;omega) (fun e=>by injection e with e;omega)),World.cell?_of_block (h1.block q.block (by have:=hv.2;omega) (fun e=>by injection e with e;omega))]
 ·exact (h.bl.grown h1 h.bl.size (fun k hk=>by injection hk;omega)).grown h2 (by have:=h.bl.size;omega) (fun k hk=>by injection hk;omega)
theorem zg5 {ops:Array Oper} {rest:List Oper} {o:Oper} {a:Act} {w:World} {Q:Exit→Act→World→Prop} (hgd:o.guard=none) (x y:Operand) (ho:o.op = .store 49 x y) (g:Nat) (hx:a.eval x = .pointer (some ⟨g,0,none⟩)) (p:AtP) (hy:a.eval y = .agg (attC p)) (hl:p.ob.length=16) {t:TypeId} (U:UpP) (h:Blk w g t (updC U)) (hU:U.at_.ob.length=16)
  (hk:∀ w',Blk w' g t (updC { U with at_:=p })→w.grownBy w' (some g)→wpList Tryz.prog ops Q rest (a.put o.dst undef) w'):wpList Tryz.prog ops Q (o::rest) a w:=by
 refine wpList_plain hgd fun K hK'=>?_
 have ht:w.there g 0 (attC p).size:=fun j hj=>by
  refine ⟨?_,h.frozen _⟩
  rw [h.cell]
  have h1:=zdB (u:=U) hU
  have h2:=zbP (p:=p) hl
  have:0+j<(updC U).size:=by omega
  simp;omega
 have hi:(Tryz.prog.info? 49).map (·.size)=some (attC p).size:=by rw [zbP hl];kernel_rfl
 have hst:=run_storeVar_mid (P:=Tryz.prog) w g 0 49 (attC p) ht hi (zlx p)
 have hrun:(execOp a.eval o).run Tryz.prog w = .ok .skip (w.setCells g 0 (attL p)):=by
  unfold execOp
  simp only [ho,hx,hy,Instr.storeAt,Instr.sureAddr,Sem.run_bind,Sem.run_pure,Result.andThen_ok,hst]
  rfl
 unfold Oper.wp
 rw [hrun]
 refine hK' _ _ (hk _ ?_ (zai _ _ _ _ (zac w _)))
 exact zbD (attL p) (attL U.at_) [] (r:=[.slice U.rA U.rn U.rc,.slice U.nA U.nn U.nc]) w (by rw [zba hl,zba hU]) h
set_option maxHeartbeats 8000000 in
theorem zpC (w:World) (lo hi:Nat) (A:Option Addr) (n c:Nat) (b:List UInt8) (h:At w lo hi A n b) (hh:hi≤w.heap.size) (hn:n≤140737488355328) (hN:za0 w) (J:Ats→List Rw→Int→Prop)
  (hJ:∀ a rest o,J a rest o→o≠3→rest.length≤100000∧∀ x∈rest,x.v.length≤1000000000)
  (hRd:∀ (wr:World) (A:Option Addr) (n c:Nat) (ys:List RawP),zbV wr w.heap.size wr.heap.size A n ys→ys.map RawP.raw=(zdk (ownB b)).1→zeM b=true→Below w.heap.size w wr→Calls Tryz.prog 73 #[.slice A n c] wr (zos wr J))
  (hSub:∀ (wr:World) (A:Option Addr) (n c:Nat) (ys:List RawP),zbV wr w.heap.size wr.heap.size A n ys→n≤c→ys.map RawP.raw=(zdk (ownB b)).1→Below w.heap.size w wr→(∃ a rest,J a rest 3)→Calls Tryz.prog 74 #[.slice A n c] wr fun e w'=>∃ s:Int,e = .returned (.int .i64 s)∧Below wr.heap.size wr w') :
  Calls Tryz.prog 41 #[.slice A n c] w (zm5 w b J):=by
 have H:=hide h
 have HN:=hide hN
 have HJ:=hide hJ
 have HRD:=hide hRd
 have HSB:=hide hSub
 have e1:(w.alloc (.cells zUpd 52)).heap.size=w.heap.size+1:=by simp
 have M0:=Blk.new (w.alloc (.cells zUpd 52)) 30 zpr
 rw [e1] at M0
 have P0:Hid (PrsS w ((w.alloc (.cells zUpd 52)).alloc (.cells zpr 30))):=hide ⟨(Blk.new w _ _).alloc _,M0,((Below.refl _ _).alloc (Nat.le_refl _) _).alloc (by rw [e1];omega) _⟩
 clear h hN hJ hRd hSub M0 e1
 go_enter Tryz.func41,Tryz.ntmps41
 go_wp2_with fail
 refine (zpy _ lo hi A n c b (H.out.below (P0.out.bl.mono hh)) (Nat.le_trans hh P0.out.bl.size) hn).mono ?_
 rintro e w1 ⟨v1,ys,rfl,ho1,hr1,hb1⟩
 obtain ⟨A1,c1,rfl,hc1,_⟩:=ho1.shape
 have P1:=hide (P0.out.on hb1)
 have HZ1:=hide (show w.heap.size+2≤w1.heap.size from P1.out.n.lt)
 have Y1:=hide ((ho1.at_ (n:=ys.length) rfl).more (lo':=w.heap.size) P0.out.bl.size (Nat.le_refl _))
 have RW:=hide hr1
 clear ho1 hr1 hb1 P0
 cases hw:zeM b
 ·have HW:=hide hw
  clear hw
  go_wp2_with fail
  refine (ziG w1 1).mono ?_
  rintro e w2 ⟨rfl,hb2⟩
  have PZ:=hide (P1.out.on hb2)
  clear hb2
  go_wp2_with (refine zaH rfl (.tmp 2) (.tmp 20) rfl w.heap.size rfl zdl rfl zcD PZ.out.r rfl ?_;intro w8 hb8 hg8;have K8:=hide hb8;have HG8:=hide hg8;have N8:=hide (PZ.out.n.grown hg8 (by simp));clear hb8 hg8;refine Hid.out ?_)
  refine hide ?_
  go_wp2_with (refine zbg rfl (.tmp 4) (.tmp 22) rfl (w.heap.size+1) rfl 3 1 rfl N8.out rfl ?_;intro w9 hb9 hg9;have K9:=hide hb9;have HG9:=hide hg9;clear hb9 hg9;refine Hid.out ?_)
  refine hide ?_
  go_wp2
  refine zen (c:=2) (q:=3) (d:=4) rfl rfl rfl rfl (K8.out.grown HG9.out (by simp)) K9.out zcD rfl ?_
  exact zgX PZ.out HG8.out HG9.out ⟨zln _ _ _,Nat.le_refl _⟩ (.torn HW.out)
 ·have HW:=hide hw
  clear hw
  obtain ⟨m1,hm1⟩:∃ m,ys.length=m:=⟨_,rfl⟩
  rw [hm1] at Y1 hc1 ⊢
  clear hm1
  go_wp2_with fail
  refine (HRD.out w1 A1 m1 c1 ys Y1.out RW.out HW.out P1.out.bl).mono ?_
  rintro e w2 ⟨p,rv,rs,oa,rfl,hJ2,hat2,hrs2,hb2⟩
  obtain ⟨A2,c2,rfl,hc2,_⟩:=hrs2.shape
  have P2:=hide (P1.out.on hb2)
  have J2:=hide hJ2
  have X2:Hid (zaO w2 (w.heap.size+2) w2.heap.size p):=hide (hat2.at_ (fun a b hR=>⟨Nat.le_trans HZ1.out hR.1,hR.2.1⟩))
  have Z2:=hide (hrs2.at_ (n:=rs.length) rfl)
  have Y2:=hide ((Y1.out.below hb2).more (Nat.le_refl _) hb2.size)
  have POB:p.ob.length=16:=X2.out.ob
  have NEW:=hide (Blk.new w2 49 zAtt)
  have HZ2:=hide (Nat.le_trans HZ1.out hb2.size)
  clear hJ2 hat2 hrs2 hb2 Y1 P1
  obtain ⟨m2,hm2⟩:∃ m,rs.length=m:=⟨_,rfl⟩
  have HM2:=hide hm2
  rw [hm2] at Z2 hc2 ⊢
  clear hm2
  go_wp2_with (refine zaT rfl (.tmp 7) (.tmp 26) rfl w2.heap.size rfl p rfl POB NEW.out rfl ?_;intro w3 hb3 hg3;have K3:=hide hb3;have W3:Hid (Below w2.heap.size w2 w3):=hide (((Below.refl _ _).alloc (Nat.le_refl _) _).grown hg3 (by simp) (by simp));clear hb3 hg3;refine Hid.out ?_)
  refine hide ?_
  have P3:=hide (P2.out.on W3.out)
  have X3:=hide (X2.out.below W3.out)
  have Z3:=hide (Z2.out.below W3.out)
  have Y3:=hide ((Y2.out.below W3.out).more (Nat.le_refl _) W3.out.size)
  have HZ3:=hide W3.out.size
  have N3:=hide (HN.out.below P3.out.bl)
  clear P2 X2 Z2 Y2 NEW W3
  by_cases ho:oa=3
  ·subst ho
   go_wp2_with fail
   refine (HSB.out w3 A1 m1 c1 ys Y3.out hc1 RW.out P3.out.bl ⟨_,_,J2.out⟩).mono ?_
   rintro e w4 ⟨sb,rfl,hb4⟩
   have P4:=hide (P3.out.on hb4)
   clear hb4
   go_wp2_with fail
   refine (ziG w4 sb).mono ?_
   rintro e w5 ⟨rfl,hb5⟩
   have PZ:=hide (P4.out.on hb5)
   clear hb5
   go_wp2_with (refine zaH rfl (.tmp 2) (.tmp 34) rfl w.heap.size rfl zdl rfl zcD PZ.out.r rfl ?_;intro w8 hb8 hg8;have K8:=hide hb8;have HG8:=hide hg8;have N8:=hide (PZ.out.n.grown hg8 (by simp));clear hb8 hg8;refine Hid.out ?_)
   refine hide ?_
   go_wp2_with (refine zbg rfl (.tmp 4) (.tmp 36) rfl (w.heap.size+1) rfl 3 sb rfl N8.out rfl ?_;intro w9 hb9 hg9;have K9:=hide hb9;have HG9:=hide hg9;clear hb9 hg9;refine Hid.out ?_)
   refine hide ?_
   go_wp2
   refine zen (c:=2) (q:=3) (d:=4) rfl rfl rfl rfl (K8.out.grown HG9.out (by simp)) K9.out zcD rfl ?_
   exact zgX PZ.out HG8.out HG9.out ⟨zln _ _ _,Nat.le_refl _⟩ (.reset _ _ _ HW.out J2.out)
  ·have HO:=hide ho
   have hob:(oa==3)=false:=beq_eq_false_iff_ne.2 ho
   obtain ⟨j1,j2⟩:=HJ.out _ _ _ J2.out ho
   rw [List.length_map] at j1
   have HV:Hid (∀ x∈rs,x.v.length≤1000000000):=hide (fun x hx=>j2 x.raw (List.mem_map.2 ⟨x,hx,rfl⟩))
   have hm2:m2≤100000:=by rw [← HM2.out];exact j1
   clear ho j1 j2
   go_wp2_with fail
   refine (zpL w3 w1.heap.size w2.heap.size A2 m2 c2 rs Z3.out HZ3.out hm2 HV.out N3.out).mono ?_
   rintro e w4 ⟨U,rfl,hu4,hup4,hb4⟩
   have P4:=hide (P3.out.on hb4)
   have X4:=hide ((X3.out.below (hb4.mono HZ3.out)).more (Nat.le_refl _) (Nat.le_refl _))
   have K4:=hide (K3.out.over hb4)
   have U4:=hide (hu4.more (lo':=w.heap.size+2) (Nat.le_trans HZ2.out HZ3.out) (Nat.le_refl _))
   have UP:=hide hup4
   have UOB:U.at_.ob.length=16:=hu4.ob
   have HZ4:=hide (Nat.le_trans HZ3.out hb4.size)
   have NEW:=hide (Blk.new w4 52 zUpd)
   clear hu4 hup4 hb4 P3 X3 K3 Y3 Z3 N3
   obtain ⟨ot,hot⟩:∃ o,(tabs (rs.map RawP.raw)).2.2=o:=⟨_,rfl⟩
   have HOT:=hide hot
   rw [hot]
   clear hot
   go_wp2_with (refine zaH rfl (.tmp 10) (.tmp 40) rfl w4.heap.size rfl U rfl UOB NEW.out rfl ?_;intro w5 hb5 hg5;have K5:=hide hb5;have W5:Hid (Below w4.heap.size w4 w5):=hide (((Below.refl _ _).alloc (Nat.le_refl _) _).grown hg5 (by simp) (by simp));clear hb5 hg5;refine Hid.out ?_)
   refine hide ?_
   have P5:=hide (P4.out.on W5.out)
   have X5:=hide (X4.out.below (W5.out.mono HZ4.out))
   have KA5:=hide (K4.out.over W5.out)
   have U5:=hide (U4.out.below W5.out)
   have HZ5:=hide K5.out.lt
   have HGB:Hid (w.heap.size+1<w4.heap.size):=hide (by have:=HZ2.out;have:=HZ4.out;omega)
   obtain ⟨gb,hgb⟩:∃ gb,w4.heap.size=gb:=⟨_,rfl⟩
   rw [hgb] at K5 U5 HZ5 HGB HZ4 ⊢
   clear P4 X4 K4 U4 NEW W5 hgb
   obtain ⟨mo,hmo⟩:∃ m,max oa ot=m:=⟨_,rfl⟩
   have HMO:Hid (max oa (tabs (rs.map RawP.raw)).2.2=mo):=hide (by rw [HOT.out];exact hmo)
   by_cases hm3:mo=3
   ·subst hm3
    go_wp2_with fail
    refine (ziG w5 9).mono ?_
    rintro e w6 ⟨rfl,hb6⟩
    have PZ:=hide (P5.out.on hb6)
    clear hb6
    go_wp2_with (refine zaH rfl (.tmp 2) (.tmp 49) rfl w.heap.size rfl zdl rfl zcD PZ.out.r rfl ?_;intro w8 hb8 hg8;have K8:=hide hb8;have HG8:=hide hg8;have N8:=hide (PZ.out.n.grown hg8 (by simp));clear hb8 hg8;refine Hid.out ?_)
    refine hide ?_
    go_wp2_with (refine zbg rfl (.tmp 4) (.tmp 51) rfl (w.heap.size+1) rfl 3 9 rfl N8.out rfl ?_;intro w9 hb9 hg9;have K9:=hide hb9;have HG9:=hide hg9;clear hb9 hg9;refine Hid.out ?_)
    refine hide ?_
    go_wp2
    refine zen (c:=2) (q:=3) (d:=4) rfl rfl rfl rfl (K8.out.grown HG9.out (by simp)) K9.out zcD rfl ?_
    exact zgX PZ.out HG8.out HG9.out ⟨zln _ _ _,Nat.le_refl _⟩ (.table _ _ _ HW.out J2.out HO.out HMO.out)
   ·have HM3:=hide hm3
    by_cases hm2:mo=2
    ·subst hm2
     have RU5:=hide (zah (l:=updL U) K5.out)
     have HTL:=hide (zuq (rs.map RawP.raw))
     have HRN:Hid (U.rn≤1∧U.nn≤1000):=hide (by
      have e1:=congrArg (fun u:Up=>u.re.length) UP.out
      have e2:=congrArg (fun u:Up=>u.un.length) UP.out
      have e3:U.re.length=(tabs (rs.map RawP.raw)).1.length:=by simpa [UpP.up] using e1
      have e4:U.ne.length=(tabs (rs.map RawP.raw)).2.1.length:=by simpa [UpP.up] using e2
      have:=U5.out.re.len
      have:=U5.out.ne.len
      have:=HTL.out
      omega)
     go_wp2_with ((with_reducible refine zbX ?_ (.tmp 10) rfl gb 0 rfl U RU5.out UOB ?_);· rfl)
     refine (zvs w5 (w.heap.size+2) gb U U5.out (Nat.le_of_lt HZ5.out) HRN.out.1 HRN.out.2).mono ?_
     rintro e w6 ⟨A6,c6,xs,rfl,hr6,hm6,hc6,ht6,hb6⟩
     have P6:=hide (P5.out.on hb6)
     have K6:=hide (K5.out.over hb6)
     have T6:=hide ht6
     have V6:Hid (UpAt w6 (w.heap.size+2) w6.heap.size (gonV A6 c6 xs)):=hide ⟨ziT _ _ _,RowE.nil _ _ _ _,⟨hr6.more (by have:=HZ5.out;have:=HGB.out;omega) (Nat.le_refl _),fun y hy=>mmTb _ _ _ _ _ _ (Nat.le_refl _) (Nat.le_trans (Nat.le_of_lt HZ5.out) hb6.size) (hm6 y hy).1,fun y hy=>(hm6 y hy).2⟩,Nat.le_refl _,hc6⟩
     have VR6:=hide hr6
     have VM6:=hide hm6
     have HC6:=hide hc6
     have HB6:=hide hb6.size
     clear hr6 hm6 hc6 ht6 hb6 P5 K5 RU5
     go_wp2_with (refine zaH rfl (.tmp 10) (.tmp 56) rfl gb rfl (gonV A6 c6 xs) rfl rfl K6.out (zdB UOB) ?_;intro w7 hb7 hg7;have K7:=hide hb7;have HG7:=hide hg7;clear hb7 hg7;refine Hid.out ?_)
     refine hide ?_
     have PZ:=hide (P6.out.grown HG7.out HGB.out)
     have HKP:Hid (∀ q:Addr,q.block<w6.heap.size→q.block≠gb→w7.cell? q=w6.cell? q):=hide (fun q h1 h2=>World.cell?_of_block (HG7.out.block q.block h1 (fun e=>by injection e with e;exact h2 e)))
     have VAT:Hid (UpAt w7 (w.heap.size+2) w7.heap.size (gonV A6 c6 xs)∧w7.heap.size≤w7.heap.size):=hide ⟨⟨ziT _ _ _,RowE.nil _ _ _ _,⟨(VR6.out.keep (fun q h1 h2=>HKP.out q h2 (by have:=HZ5.out;omega))).more (by have:=HZ5.out;have:=HGB.out;omega) HG7.out.size,fun y hy=>mmTb _ _ _ _ _ _ (Nat.le_refl _) (by have:=HZ5.out;have:=P6.out.bl.size;have:=HG7.out.size;have:=HB6.out;omega) (mkTb _ _ _ _ _ (fun q h1 h2=>HKP.out q (by have:=HB6.out;have:=HZ5.out;omega) (by omega)) (VM6.out y hy).1),fun y hy=>(VM6.out y hy).2⟩,Nat.le_refl _,HC6.out⟩,Nat.le_refl _⟩
     have RGV:=hide (zah (l:=updL (gonV A6 c6 xs)) K7.out)
     have HUP:Hid ((gonV A6 c6 xs).up=⟨zeV,[],(tabs (rs.map RawP.raw)).1.map zi4++(tabs (rs.map RawP.raw)).2.1⟩):=hide (by
      show (⟨zeV,[],xs.map TbP.tb⟩:Up)=_
      rw [T6.out,UP.out])
     go_wp2_with (first
      | ((with_reducible refine zbX ?_ (.tmp 10) rfl gb 0 rfl (gonV A6 c6 xs) RGV.out rfl ?_);· rfl)
      | (refine zaH rfl (.tmp 2) (.tmp 64) rfl w.heap.size rfl (gonV A6 c6 xs) rfl rfl PZ.out.r rfl ?_;intro w8 hb8 hg8;have K8:=hide hb8;have HG8:=hide hg8;have N8:=hide (PZ.out.n.grown hg8 (by simp));clear hb8 hg8;refine Hid.out ?_))
     refine hide ?_
     go_wp2_with (refine zbg rfl (.tmp 4) (.tmp 66) rfl (w.heap.size+1) rfl 0 0 rfl N8.out rfl ?_;intro w9 hb9 hg9;have K9:=hide hb9;have HG9:=hide hg9;clear hb9 hg9;refine Hid.out ?_)
     refine hide ?_
     go_wp2
     refine zen (c:=2) (q:=3) (d:=4) rfl rfl rfl rfl (K8.out.grown HG9.out (by simp)) K9.out rfl rfl ?_
     exact zgX PZ.out HG8.out HG9.out VAT.out (by rw [HUP.out];exact .held _ _ _ HW.out J2.out HO.out HMO.out)
    ·have HM2:=hide hm2
     have c24:w5.cell? ⟨gb,24,none⟩=some (.slice U.rA U.rn U.rc):=by rw [K5.out.cell];unfold updC;simpa using zii UOB
     have HLU:Hid ((tabs (rs.map RawP.raw)).1.length=U.rn):=hide (by
      have e1:=congrArg (fun u:Up=>u.re.length) UP.out
      have e3:U.re.length=(tabs (rs.map RawP.raw)).1.length:=by simpa [UpP.up] using e1
      rw [← e3];exact U5.out.re.len)
     by_cases hr:0<U.rn
     ·have hrI:(0:Int)<(U.rn:Int):=by omega
      have RA5:=hide (zah (l:=attL p) KA5.out)
      go_wp2_with (first
       | ((with_reducible refine zaL ?_ (.tmp 7) rfl w2.heap.size 0 rfl RA5.out POB ?_);· rfl)
       | (refine zg5 rfl (.tmp 63) (.tmp 62) rfl gb rfl p rfl POB U K5.out UOB ?_;intro w7 hb7 hg7;have K7:=hide hb7;have HG7:=hide hg7;clear hb7 hg7;refine Hid.out ?_))
      refine hide ?_
      have PZ:=hide (P5.out.grown HG7.out HGB.out)
      have HKP:Hid (∀ q:Addr,q.block<gb→w7.cell? q=w5.cell? q):=hide (fun q h1=>World.cell?_of_block (HG7.out.block q.block (by have:=HZ5.out;omega) (fun e=>by injection e with e;omega)))
      have VAT:Hid (UpAt w7 (w.heap.size+2) gb { U with at_:=p }∧gb≤w7.heap.size):=hide ⟨⟨(X5.out.more (Nat.le_refl _) HZ4.out).keep (fun q h1 h2=>HKP.out q h2),U5.out.re.keep mkTb (fun q h1 h2=>HKP.out q h2),U5.out.ne.keep mkTb (fun q h1 h2=>HKP.out q h2),U5.out.rc,U5.out.nc⟩,by have:=HZ5.out;have:=HG7.out.size;omega⟩
      have RGV:=hide (zah (l:=updL { U with at_:=p }) K7.out)
      have HUP:Hid (UpP.up { U with at_:=p }=⟨p.ats,(tabs (rs.map RawP.raw)).1,(tabs (rs.map RawP.raw)).2.1⟩):=hide (by
       have e:=UP.out
       show (⟨p.ats,U.up.re,U.up.un⟩:Up)=_
       rw [e])
      go_wp2_with (first
       | ((with_reducible refine zbX ?_ (.tmp 10) rfl gb 0 rfl { U with at_:=p } RGV.out POB ?_);· rfl)
       | (refine zaH rfl (.tmp 2) (.tmp 64) rfl w.heap.size rfl { U with at_:=p } rfl POB PZ.out.r rfl ?_;intro w8 hb8 hg8;have K8:=hide hb8;have HG8:=hide hg8;have N8:=hide (PZ.out.n.grown hg8 (by simp));clear hb8 hg8;refine Hid.out ?_))
      refine hide ?_
      go_wp2_with (refine zbg rfl (.tmp 4) (.tmp 66) rfl (w.heap.size+1) rfl 0 0 rfl N8.out rfl ?_;intro w9 hb9 hg9;have K9:=hide hb9;have HG9:=hide hg9;clear hb9 hg9;refine Hid.out ?_)
      refine hide ?_
      go_wp2
      refine zen (c:=2) (q:=3) (d:=4) rfl rfl rfl rfl (K8.out.grown HG9.out (by simp)) K9.out POB rfl ?_
      exact zgX PZ.out HG8.out HG9.out VAT.out (by rw [HUP.out];exact .reach _ _ _ _ HW.out J2.out HO.out HMO.out HM3.out HM2.out (by rw [HLU.out];exact hr))
     ·have hrI:¬ (0:Int)<(U.rn:Int):=by omega
      have PZ:=hide P5.out
      have VAT:Hid (UpAt w5 (w.heap.size+2) gb U∧gb≤w5.heap.size):=hide ⟨U5.out,Nat.le_of_lt HZ5.out⟩
      have RGV:=hide (zah (l:=updL U) K5.out)
      have K7:=hide K5.out
      go_wp2_with (first
       | ((with_reducible refine zbX ?_ (.tmp 10) rfl gb 0 rfl U RGV.out UOB ?_);· rfl)
       | (refine zaH rfl (.tmp 2) (.tmp 64) rfl w.heap.size rfl U rfl UOB PZ.out.r rfl ?_;intro w8 hb8 hg8;have K8:=hide hb8;have HG8:=hide hg8;have N8:=hide (PZ.out.n.grown hg8 (by simp));clear hb8 hg8;refine Hid.out ?_))
      refine hide ?_
      go_wp2_with (refine zbg rfl (.tmp 4) (.tmp 66) rfl (w.heap.size+1) rfl 0 0 rfl N8.out rfl ?_;intro w9 hb9 hg9;have K9:=hide hb9;have HG9:=hide hg9;clear hb9 hg9;refine Hid.out ?_)
      refine hide ?_
      go_wp2
      refine zen (c:=2) (q:=3) (d:=4) rfl rfl rfl rfl (K8.out.grown HG9.out (by simp)) K9.out UOB rfl ?_
      exact zgX PZ.out HG8.out HG9.out VAT.out (by rw [UP.out];exact .none _ _ _ _ HW.out J2.out HO.out HMO.out HM3.out HM2.out (by rw [HLU.out];omega))
end
end Go.Proofs.YtjindligkhdddaaGreatDoor
