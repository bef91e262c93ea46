/-
  How an update is read: split, reset, Parse of package update, in whatever memory, given what attr.Read and subOf do there. The one condition beyond sizes that fit memory: the program's table holds what its text lays.
  What a value says where it says an address or communities, in whatever memory. No condition.
  What a value says where it says a row of addresses, in whatever memory. No condition.
-/
import Derived.Test.YtplpglfjcieloaaGreatDoorKSBI
import Derived.Test.YtplpglfjcieloaaGreatDoorKSBL
set_option linter.unusedVariables false
set_option linter.unusedSimpArgs false
namespace Go.Proofs.YtplpglfjcieloaaGreatDoor
open Tryz
section
set_option maxRecDepth 20000
open Go.RowKit
def spN (b:List UInt8):Nat:=zap b 2
def spR (b:List UInt8):List UInt8:=zae (zaf b 2) (spN b:Nat)
def spM (b:List UInt8):Nat:=zap (spR b) 2
def ownB (b:List UInt8):List UInt8:=zab (zaf (spR b) 2) (spM b:Nat)
def badB (b:List UInt8):Bool:=!za9 b 2||!zaY (zaf b 2) (spN b:Nat)||!za9 (spR b) 2||!zaY (zaf (spR b) 2) (spM b:Nat)
def ze0 (b:List UInt8):Bool:=decide ((zds (ownB b)).2=0)&&!badB b
def zrt (w:World) (b:List UInt8) (e:Ending) (w':World):Prop :=
 ∃ v xs,e = .returned (.tuple #[v,.bool (ze0 b)])∧zaD w' w.heap.size 176 5 v xs∧xs.map RawP.raw=(zds (ownB b)).1∧Below w.heap.size w w'
theorem zkz (b:List UInt8):zap b 2<9223372036854775808:=by
 unfold zap
 split
 ·have h1:=zeu (zab b 2)
  have h2:(zab b 2).length≤2:=by
   unfold zab
   split
   ·rw [List.length_take];exact Nat.min_le_left _ _
   ·simp
  have h3:256^(zab b 2).length≤256^2:=Nat.pow_le_pow_right (by decide) h2
  omega
 ·decide
set_option maxHeartbeats 2000000 in
theorem zpS (w:World) (lo hi:Nat) (A:Option Addr) (n c:Nat) (b:List UInt8) (h:At w lo hi A n b) (hh:hi≤w.heap.size) (hn:n≤140737488355328) :
  Calls prog 79 #[.slice A n c] w (zrt w b):=by
 have H:=hD h
 clear h
 go_enter func79,ntmps79
 go_wp2_with fail
 refine (zbw w lo hi A n c b H.o hh hn).mono ?_
 rintro e w1 ⟨g,rfl,hg,l,s⟩
 have Q:=hD l
 have I:=hD s
 have z:=hD hg
 clear l s hg
 go_wp2_with fail
 refine (zaW w1 _ g b false Q.o 2 (by decide)).mono ?_
 rintro e V ⟨rfl,m,q⟩
 have T:=hD m
 have K:=hD (I.o.grown q I.o.size (fun k d=>by injection d with d;have:=z.o;omega))
 have HN:Hid ((zap b 2:Nat)=spN b):=hD rfl
 have wn:(Lit.int .i64 ((spN b:Nat):Int)).wf=true:=zcA (zkz b)
 rw [HN.o]
 clear m q Q I
 go_wp2_with fail
 refine (zaR V _ g _ _ T.o _ wn).mono ?_
 rintro e P ⟨v3,rfl,_,j,x⟩
 have N:Hid (Rd P w.heap.size g (spR b) _):=hD j
 have D:=hD (K.o.grown x K.o.size (fun k d=>by injection d with d;have:=z.o;omega))
 clear j x T K
 go_wp2_with fail
 refine (zaW P _ g (spR b) _ N.o 2 (by decide)).mono ?_
 rintro e L ⟨rfl,p,v⟩
 have G:=hD p
 have J:=hD (D.o.grown v D.o.size (fun k d=>by injection d with d;have:=z.o;omega))
 have X:Hid ((zap (spR b) 2:Nat)=spM b):=hD rfl
 have wm:(Lit.int .i64 ((spM b:Nat):Int)).wf=true:=zcA (zkz (spR b))
 rw [X.o]
 clear p v N D
 go_wp2_with fail
 refine (zaR L _ g _ _ G.o _ wm).mono ?_
 rintro e C ⟨Y,rfl,u,t,r⟩
 have a:C.ownsRow L.heap.size 5 1 Y (ownB b).length (bvs (ownB b)):=u
 obtain ⟨Z,W,rfl,_,_⟩:=zag a
 have S:=hD (At.own a)
 have E:Hid (Rd C w.heap.size g _ (badB b)):=hD t
 have B:=hD (J.o.grown r J.o.size (fun k d=>by injection d with d;have:=z.o;omega))
 have F:(ownB b).length≤140737488355328:=by
  have h9:=G.o.len
  unfold ownB zab
  split
  ·rw [List.length_take];omega
  ·simp
 clear u a t r G J
 go_wp2_with fail
 refine (zr3 C _ _ Z _ W (ownB b) S.o lr F).mono ?_
 have M:Hid (ze0 b=(decide ((zds (ownB b)).2=0)&&!badB b)):=hD rfl
 unfold zex
 generalize (zds (ownB b)).2=er at *
 rintro e w6 ⟨v6,ys,rfl,f,y,i⟩
 obtain ⟨A6,c6,rfl,_,_⟩:=f.shape
 have O:=hD f
 have R:=hD y
 have R6:=hD (E.o.below i E.o.lt)
 have U:=hD (zaa B.o i lr)
 clear f y i E S
 by_cases he:er=0
 ·subst he
  go_wp2_with fail
  refine (R6.o.bad).mono ?_
  rintro e w7 ⟨rfl,rfl⟩
  go_wp2
  go_ret2
  exact ⟨_,ys,by rw [M.o];rfl,O.o.more B.o.size,R.o,U.o⟩
 ·have aa:(er==0)=false:=beq_eq_false_iff_ne.2 he
  have HE:Hid (ze0 b=false):=hD (by rw [M.o,decide_eq_false he];rfl)
  clear he
  go_wp2
  go_ret2
  exact ⟨_,ys,by rw [HE.o];rfl,O.o.more B.o.size,R.o,U.o⟩
def zhj (k s:Int):Array Value:=#[.int .i64 k,.int .i64 s,.slice none 0 0]
theorem zbj {ops:Array Oper} {rest:List Oper} {o:Oper} {a:Act} {w:World} {Q:Exit→Act→World→Prop} (c:o.guard=none) (x y:Operand) (e:o.op = .store 40 x y) (g:Nat) (hx:a.eval x = .pointer (some ⟨g,0,none⟩)) (k s:Int) (hy:a.eval y = .agg (zhj k s)) {t:TypeId} {old:Array Value} (h:Blk w g t old) (b:old.size=3)
  (d:∀ w',Blk w' g t (zhj k s)→w.grownBy w' (some g)→wpList prog ops Q rest (a.put o.dst undef) w'):wpList prog ops Q (o::rest) a w :=
 wpList_store_row c 40 x y e g (zhj k s) hx hy t old h (by show _=some 3;kernel_rfl) (by rw [b];rfl) (by simp [zhj,Value.oneCell']) (d _ (h.setRow _) (zaB _ _ _))
theorem ztk {w:World} {g:Nat} {t:TypeId} {k s:Int} (h:Blk w g t (zhj k s)):(loadVar 40 ⟨g,0,none⟩).run prog w = .ok (.agg (zhj k s)) w :=
 run_loadVar_mid w g 0 40 [.int .i64 k,.int .i64 s,.slice none 0 0] _ (zah (l:=[.int .i64 k,.int .i64 s,.slice none 0 0]) h) underlying40 rfl (by show _=some 3;kernel_rfl)
theorem zeE {fn:Func} {R:Ending→World→Prop} {a:Act} {w:World} {c q d:Tmp} {g gn:Nat} {t tn:TypeId} {u:UpP} {v:Value} {k s:Int} (j:fn.results=#[.cell c 38,.tmp q,.cell d 40])
  (hp:a.tmps.getD c undef = .pointer (some ⟨g,0,none⟩)) (hq:a.tmps.getD q undef=v) (hn:a.tmps.getD d undef = .pointer (some ⟨gn,0,none⟩)) (h:Blk w g t (updC u)) (m:Blk w gn tn (zhj k s)) (i:u.at_.ob.length=16) (hd:a.defers=[]) (hR:R (.returned (.tuple #[.agg (updC u),v,.agg (zhj k s)])) w) :
  bodyPost prog fn R .ret a w:=by
 refine bodyPost_ret (v:=.tuple #[.agg (updC u),v,.agg (zhj k s)]) ?_ hd hR
 have b:a.tmps[c]?.getD undef = .pointer (some ⟨g,0,none⟩):=by simpa using hp
 have f:a.tmps[q]?.getD undef=v:=by simpa using hq
 have e:a.tmps[d]?.getD undef = .pointer (some ⟨gn,0,none⟩):=by simpa using hn
 simp [results,j,b,f,e,asAddr,zly (zah (l:=updL u) h) i,ztk m]
abbrev zpM:Array Value:=#[.int .i64 0,.int .i64 0,.slice none 0 0]
theorem ziW (w:World) (s:Int):Calls prog 80 #[.int .i64 s] w fun e w'=>e = .returned (.tuple #[.agg (updC zdo),.int .i64 3,.agg (zhj 3 s)])∧Below w.heap.size w w':=by
 have n:=hD ((Blk.new w 38 zUpd).alloc (.cells zpM 40))
 have m:(w.alloc (.cells zUpd 38)).heap.size=w.heap.size+1:=by simp
 have l:=Blk.new (w.alloc (.cells zUpd 38)) 40 zpM
 rw [m] at l
 have r:Hid (Below w.heap.size w ((w.alloc (.cells zUpd 38)).alloc (.cells zpM 40))):=hD (((Below.refl _ _).alloc lr _).alloc (by rw [m];omega) _)
 have h:=hD l
 clear l m
 go_enter func80,ntmps80
 go_wp2_with fail
 refine (zg7 _).mono ?_
 rintro e w1 ⟨rfl,a⟩
 have v:=hD (n.o.over a)
 have x:=hD (h.o.over a)
 have k:=hD (zaa r.o a (by simp))
 clear a n r h
 go_wp2_with (first
  | (refine zaJ rfl (.tmp 2) (.tmp 5) rfl w.heap.size rfl zdo rfl zcH v.o rfl ?_;intro A f b;have u:=hD f;have t:=hD b;have y:=hD (x.o.grown b (by simp));clear f b;refine Hid.o ?_))
 refine hD ?_
 go_wp2_with (refine zbj rfl (.tmp 4) (.tmp 7) rfl (w.heap.size+1) rfl 3 s rfl y.o rfl ?_;intro B j i;have z:=hD j;have p:=hD i;clear j i;refine Hid.o ?_)
 refine hD ?_
 go_wp2
 refine zeE (c:=2) (q:=3) (d:=4) rfl rfl rfl rfl (u.o.grown p.o (by simp)) z.o zcH rfl ?_
 exact ⟨rfl,(k.o.grown t.o k.o.size (fun g hg=>by injection hg with hg;omega)).grown p.o (by have:=k.o.size;have:=t.o.size;omega) (fun g hg=>by injection hg with hg;omega)⟩
def zjs:Up:=⟨zeo,[],[]⟩
inductive zdD (b:List UInt8) (J:Ats→List Rw→Int→Prop):Up→Int→Int→Int→Prop where
 | torn:ze0 b=false→zdD b J zjs 3 3 1
 | reset (a:Ats) (rest:List Rw) (s:Int):ze0 b=true→J a rest 3→zdD b J zjs 3 3 s
 | table (a:Ats) (rest:List Rw) (o:Int):ze0 b=true→J a rest o→o≠3→max o (tabs rest).2.2=3→zdD b J zjs 3 3 9
 | held (a:Ats) (rest:List Rw) (o:Int):ze0 b=true→J a rest o→o≠3→max o (tabs rest).2.2=2→zdD b J ⟨zeo,[],(tabs rest).1.map zjm++(tabs rest).2.1⟩ 2 0 0
 | reach (a:Ats) (rest:List Rw) (o m:Int):ze0 b=true→J a rest o→o≠3→max o (tabs rest).2.2=m→m≠3→m≠2→0<(tabs rest).1.length→zdD b J ⟨a,(tabs rest).1,(tabs rest).2.1⟩ m 0 0
 | none (a:Ats) (rest:List Rw) (o m:Int):ze0 b=true→J a rest o→o≠3→max o (tabs rest).2.2=m→m≠3→m≠2→(tabs rest).1.length=0→zdD b J ⟨zeo,(tabs rest).1,(tabs rest).2.1⟩ m 0 0
def znv (w:World) (b:List UInt8) (J:Ats→List Rw→Int→Prop) (e:Ending) (w':World):Prop :=
 ∃ (U:UpP) (o nc ns:Int),e = .returned (.tuple #[.agg (updC U),.int .i64 o,.agg (zhj nc ns)])∧UpAt w' w.heap.size w'.heap.size U∧zdD b J U.up o nc ns∧Below w.heap.size w w'
theorem zli (r:Bool) (b:List UInt8):(rdL r b).length≤1:=by
 unfold rdL
 split <;> simp
theorem zuO (l:List Rw):(tabs l).1.length≤1∧(tabs l).2.1.length≤1:=by
 have h:∀ (l:List Rw) (s:List Tb × List Tb × Int),s.1.length≤1∧s.2.1.length≤1→(l.foldl zcl s).1.length≤1∧(l.foldl zcl s).2.1.length≤1:=by
  intro l
  induction l with
  | nil=>exact fun s hs=>hs
  | cons x r ih =>
   intro s hs
   refine ih _ ?_
   unfold zcl
   split
   ·exact ⟨zli _ _,hs.2⟩
   ·split
    ·exact ⟨hs.1,zli _ _⟩
    ·exact hs
 exact h l _ ⟨Nat.zero_le _,Nat.zero_le _⟩
structure PrsS (w y:World):Prop where
 r:Blk y w.heap.size 38 zUpd
 n:Blk y (w.heap.size+1) 40 zpM
 bl:Below w.heap.size w y
theorem PrsS.on {w y z:World} (h:PrsS w y) (hb:Below y.heap.size y z):PrsS w z:=⟨h.r.over hb,h.n.over hb,zaa h.bl hb lr⟩
theorem PrsS.grown {w y z:World} {g:Nat} (h:PrsS w y) (hg:y.grownBy z (some g)) (hq:w.heap.size+1<g):PrsS w z :=
 ⟨h.r.grown hg (by simp;omega),h.n.grown hg (by simp;omega),h.bl.grown hg h.bl.size (fun k a=>by injection a;omega)⟩
theorem zlN (w:World) (lo hi:Nat):UpAt w lo hi zdo:=⟨zjc _ _ _,RowE.nil _ _ _ _,RowE.nil _ _ _ _,lr,lr⟩
theorem zhh {w y d c:World} {b:List UInt8} {J:Ats→List Rw→Int→Prop} {V:UpP} {hi:Nat} {o nc ns:Int} (h:PrsS w y) (h1:y.grownBy d (some w.heap.size)) (h2:d.grownBy c (some (w.heap.size+1))) (hv:UpAt y (w.heap.size+2) hi V∧hi≤y.heap.size) (f:zdD b J V.up o nc ns) :
  znv w b J (.returned (.tuple #[.agg (updC V),.int .i64 o,.agg (zhj nc ns)])) c:=by
 have g:=h1.size
 have j:=h2.size
 refine ⟨V,o,nc,ns,rfl,(hv.1.keep (fun q i l=>?_)).more (by omega) (by have:=hv.2;omega),f,?_⟩
 ·rw [World.cell?_of_block (h2.block q.block (by have:=hv.2;omega) (fun e=>by injection e with e;omega)),World.cell?_of_block (h1.block q.block (by have:=hv.2;omega) (fun e=>by injection e with e;omega))]
 ·exact (h.bl.grown h1 h.bl.size (fun k a=>by injection a;omega)).grown h2 (by have:=h.bl.size;omega) (fun k a=>by injection a;omega)
theorem zho {ops:Array Oper} {rest:List Oper} {o:Oper} {a:Act} {w:World} {Q:Exit→Act→World→Prop} (c:o.guard=none) (x y:Operand) (m:o.op = .store 35 x y) (g:Nat) (hx:a.eval x = .pointer (some ⟨g,0,none⟩)) (p:AtP) (hy:a.eval y = .agg (attC p)) (f:p.ob.length=16) {t:TypeId} (U:UpP) (h:Blk w g t (updC U)) (i:U.at_.ob.length=16)
  (k:∀ w',Blk w' g t (updC { U with at_:=p })→w.grownBy w' (some g)→wpList prog ops Q rest (a.put o.dst undef) w'):wpList prog ops Q (o::rest) a w:=by
 refine wpList_plain c fun K d=>?_
 have l:w.there g 0 (attC p).size:=fun j n=>by
  refine ⟨?_,h.frozen _⟩
  rw [h.cell]
  have h1:=zee (u:=U) i
  have h2:=zbT (p:=p) f
  have:0+j<(updC U).size:=by omega
  simp;omega
 have hi:(prog.info? 35).map (·.size)=some (attC p).size:=by rw [zbT f];kernel_rfl
 have e:=run_storeVar_mid (P:=prog) w g 0 35 (attC p) l hi (zlX p)
 have b:(execOp a.eval o).run prog w = .ok .skip (w.setCells g 0 (attL p)):=by
  unfold execOp
  simp only [m,hx,hy,Instr.storeAt,Instr.sureAddr,Sem.run_bind,Sem.run_pure,Result.andThen_ok,e]
  rfl
 unfold Oper.wp
 rw [b]
 refine d _ _ (k _ ?_ (zai _ _ _ _ (zad w _)))
 exact zbE (attL p) (attL U.at_) [] (r:=[.slice U.rA U.rn U.rc,.slice U.nA U.nn U.nc]) w (by rw [zbc f,zbc i]) h
set_option maxHeartbeats 8000000 in
theorem zpW (w:World) (lo hi:Nat) (A:Option Addr) (n c:Nat) (b:List UInt8) (h:At w lo hi A n b) (hh:hi≤w.heap.size) (hn:n≤140737488355328) (hN:za1 w) (J:Ats→List Rw→Int→Prop)
  (hJ:∀ a rest o,J a rest o→o≠3→rest.length≤100000∧∀ x∈rest,x.v.length≤1000000000)
  (bn:∀ (wr:World) (A:Option Addr) (n c:Nat) (ys:List RawP),zbi wr w.heap.size wr.heap.size A n ys→ys.map RawP.raw=(zds (ownB b)).1→ze0 b=true→Below w.heap.size w wr→Calls prog 81 #[.slice A n c] wr (zke wr J))
  (ah:∀ (wr:World) (A:Option Addr) (n c:Nat) (ys:List RawP),zbi wr w.heap.size wr.heap.size A n ys→n≤c→ys.map RawP.raw=(zds (ownB b)).1→Below w.heap.size w wr→(∃ a rest,J a rest 3)→Calls prog 82 #[.slice A n c] wr fun e w'=>∃ s:Int,e = .returned (.int .i64 s)∧Below wr.heap.size wr w') :
  Calls prog 36 #[.slice A n c] w (znv w b J):=by
 have H:=hD h
 have HN:=hD hN
 have HJ:=hD hJ
 have ch:=hD bn
 have cj:=hD ah
 have e1:(w.alloc (.cells zUpd 38)).heap.size=w.heap.size+1:=by simp
 have M0:=Blk.new (w.alloc (.cells zUpd 38)) 40 zpM
 rw [e1] at M0
 have P0:Hid (PrsS w ((w.alloc (.cells zUpd 38)).alloc (.cells zpM 40))):=hD ⟨(Blk.new w _ _).alloc _,M0,((Below.refl _ _).alloc lr _).alloc (by rw [e1];omega) _⟩
 clear h hN hJ bn ah M0 e1
 go_enter func36,ntmps36
 go_wp2_with fail
 refine (zpS _ lo hi A n c b (H.o.below (P0.o.bl.mono hh)) (Nat.le_trans hh P0.o.bl.size) hn).mono ?_
 rintro e w1 ⟨v1,ys,rfl,aj,aw,bg⟩
 obtain ⟨A1,c1,rfl,bi,_⟩:=aj.shape
 have P1:=hD (P0.o.on bg)
 have bw:=hD (show w.heap.size+2≤w1.heap.size from P1.o.n.lt)
 have Y1:=hD ((aj.at_ (n:=ys.length) rfl).more (lo':=w.heap.size) P0.o.bl.size lr)
 have RW:=hD aw
 clear aj aw bg P0
 cases hw:ze0 b
 ·have HW:=hD hw
  clear hw
  go_wp2_with fail
  refine (ziW w1 1).mono ?_
  rintro e w2 ⟨rfl,C⟩
  have z:=hD (P1.o.on C)
  clear C
  go_wp2_with (refine zaJ rfl (.tmp 2) (.tmp 20) rfl w.heap.size rfl zdo rfl zcH z.o.r rfl ?_;intro w8 j f;have Q:=hD j;have B:=hD f;have V:=hD (z.o.n.grown f (by simp));clear j f;refine Hid.o ?_)
  refine hD ?_
  go_wp2_with (refine zbj rfl (.tmp 4) (.tmp 22) rfl (w.heap.size+1) rfl 3 1 rfl V.o rfl ?_;intro w9 g k;have M:=hD g;have i:=hD k;clear g k;refine Hid.o ?_)
  refine hD ?_
  go_wp2
  refine zeE (c:=2) (q:=3) (d:=4) rfl rfl rfl rfl (Q.o.grown i.o (by simp)) M.o zcH rfl ?_
  exact zhh z.o B.o i.o ⟨zlN _ _ _,lr⟩ (.torn HW.o)
 ·have HW:=hD hw
  clear hw
  obtain ⟨m1,az⟩:∃ m,ys.length=m:=⟨_,rfl⟩
  rw [az] at Y1 bi ⊢
  clear az
  go_wp2_with fail
  refine (ch.o w1 A1 m1 c1 ys Y1.o RW.o HW.o P1.o.bl).mono ?_
  rintro e w2 ⟨p,rv,rs,oa,rfl,ce,ai,P,C⟩
  obtain ⟨A2,c2,rfl,co,_⟩:=P.shape
  have P2:=hD (P1.o.on C)
  have J2:=hD ce
  have X2:Hid (zax w2 (w.heap.size+2) w2.heap.size p):=hD (ai.at_ (fun a b hR=>⟨Nat.le_trans bw.o hR.1,hR.2.1⟩))
  have Z2:=hD (P.at_ (n:=rs.length) rfl)
  have Y2:=hD ((Y1.o.below C).more lr C.size)
  have L:p.ob.length=16:=X2.o.ob
  have S:=hD (Blk.new w2 35 zAtt)
  have cd:=hD (Nat.le_trans bw.o C.size)
  clear ce ai P C Y1 P1
  obtain ⟨m2,F⟩:∃ m,rs.length=m:=⟨_,rfl⟩
  have ac:=hD F
  rw [F] at Z2 co ⊢
  clear F
  go_wp2_with (refine zaT rfl (.tmp 7) (.tmp 26) rfl w2.heap.size rfl p rfl L S.o rfl ?_;intro w3 bj bh;have K3:=hD bj;have W3:Hid (Below w2.heap.size w2 w3):=hD (((Below.refl _ _).alloc lr _).grown bh (by simp) (by simp));clear bj bh;refine Hid.o ?_)
  refine hD ?_
  have P3:=hD (P2.o.on W3.o)
  have X3:=hD (X2.o.below W3.o)
  have Z3:=hD (Z2.o.below W3.o)
  have Y3:=hD ((Y2.o.below W3.o).more lr W3.o.size)
  have af:=hD W3.o.size
  have N3:=hD (HN.o.below P3.o.bl)
  clear P2 X2 Z2 Y2 S W3
  by_cases ho:oa=3
  ·subst ho
   go_wp2_with fail
   refine (cj.o w3 A1 m1 c1 ys Y3.o bi RW.o P3.o.bl ⟨_,_,J2.o⟩).mono ?_
   rintro e w4 ⟨sb,rfl,D⟩
   have P4:=hD (P3.o.on D)
   clear D
   go_wp2_with fail
   refine (ziW w4 sb).mono ?_
   rintro e w5 ⟨rfl,X⟩
   have z:=hD (P4.o.on X)
   clear X
   go_wp2_with (refine zaJ rfl (.tmp 2) (.tmp 34) rfl w.heap.size rfl zdo rfl zcH z.o.r rfl ?_;intro w8 j f;have Q:=hD j;have B:=hD f;have V:=hD (z.o.n.grown f (by simp));clear j f;refine Hid.o ?_)
   refine hD ?_
   go_wp2_with (refine zbj rfl (.tmp 4) (.tmp 36) rfl (w.heap.size+1) rfl 3 sb rfl V.o rfl ?_;intro w9 g k;have M:=hD g;have i:=hD k;clear g k;refine Hid.o ?_)
   refine hD ?_
   go_wp2
   refine zeE (c:=2) (q:=3) (d:=4) rfl rfl rfl rfl (Q.o.grown i.o (by simp)) M.o zcH rfl ?_
   exact zhh z.o B.o i.o ⟨zlN _ _ _,lr⟩ (.reset _ _ _ HW.o J2.o)
  ·have HO:=hD ho
   have c8:(oa==3)=false:=beq_eq_false_iff_ne.2 ho
   obtain ⟨j1,j2⟩:=HJ.o _ _ _ J2.o ho
   rw [List.length_map] at j1
   have HV:Hid (∀ x∈rs,x.v.length≤1000000000):=hD (fun x hx=>j2 x.raw (List.mem_map.2 ⟨x,hx,rfl⟩))
   have F:m2≤100000:=by rw [← ac.o];exact j1
   clear ho j1 j2
   go_wp2_with fail
   refine (zp4 w3 w1.heap.size w2.heap.size A2 m2 c2 rs Z3.o af.o F HV.o N3.o).mono ?_
   rintro e w4 ⟨U,rfl,au,ag,D⟩
   have P4:=hD (P3.o.on D)
   have X4:=hD ((X3.o.below (D.mono af.o)).more lr lr)
   have K4:=hD (K3.o.over D)
   have U4:=hD (au.more (lo':=w.heap.size+2) (Nat.le_trans cd.o af.o) lr)
   have UP:=hD ag
   have I:U.at_.ob.length=16:=au.ob
   have Z:=hD (Nat.le_trans af.o D.size)
   have S:=hD (Blk.new w4 38 zUpd)
   clear au ag D P3 X3 K3 Y3 Z3 N3
   obtain ⟨ot,ak⟩:∃ o,(tabs (rs.map RawP.raw)).2.2=o:=⟨_,rfl⟩
   have cw:=hD ak
   rw [ak]
   clear ak
   go_wp2_with (refine zaJ rfl (.tmp 10) (.tmp 40) rfl w4.heap.size rfl U rfl I S.o rfl ?_;intro w5 X bo;have K5:=hD X;have W5:Hid (Below w4.heap.size w4 w5):=hD (((Below.refl _ _).alloc lr _).grown bo (by simp) (by simp));clear X bo;refine Hid.o ?_)
   refine hD ?_
   have P5:=hD (P4.o.on W5.o)
   have X5:=hD (X4.o.below (W5.o.mono Z.o))
   have cu:=hD (K4.o.over W5.o)
   have Y:=hD (U4.o.below W5.o)
   have t:=hD K5.o.lt
   have R:Hid (w.heap.size+1<w4.heap.size):=hD (by have:=cd.o;have:=Z.o;omega)
   obtain ⟨gb,a8⟩:∃ gb,w4.heap.size=gb:=⟨_,rfl⟩
   rw [a8] at K5 Y t R Z ⊢
   clear P4 X4 K4 U4 S W5 a8
   obtain ⟨mo,ct⟩:∃ m,max oa ot=m:=⟨_,rfl⟩
   have aa:Hid (max oa (tabs (rs.map RawP.raw)).2.2=mo):=hD (by rw [cw.o];exact ct)
   by_cases ay:mo=3
   ·subst ay
    go_wp2_with fail
    refine (ziW w5 9).mono ?_
    rintro e w6 ⟨rfl,G⟩
    have z:=hD (P5.o.on G)
    clear G
    go_wp2_with (refine zaJ rfl (.tmp 2) (.tmp 49) rfl w.heap.size rfl zdo rfl zcH z.o.r rfl ?_;intro w8 j f;have Q:=hD j;have B:=hD f;have V:=hD (z.o.n.grown f (by simp));clear j f;refine Hid.o ?_)
    refine hD ?_
    go_wp2_with (refine zbj rfl (.tmp 4) (.tmp 51) rfl (w.heap.size+1) rfl 3 9 rfl V.o rfl ?_;intro w9 g k;have M:=hD g;have i:=hD k;clear g k;refine Hid.o ?_)
    refine hD ?_
    go_wp2
    refine zeE (c:=2) (q:=3) (d:=4) rfl rfl rfl rfl (Q.o.grown i.o (by simp)) M.o zcH rfl ?_
    exact zhh z.o B.o i.o ⟨zlN _ _ _,lr⟩ (.table _ _ _ HW.o J2.o HO.o aa.o)
   ·have bt:=hD ay
    by_cases F:mo=2
    ·subst F
     have bu:=hD (zah (l:=updL U) K5.o)
     have cm:=hD (zuO (rs.map RawP.raw))
     have bc:Hid (U.rn≤1∧U.nn≤1000):=hD (by
      have e1:=congrArg (fun u:Up=>u.re.length) UP.o
      have e2:=congrArg (fun u:Up=>u.un.length) UP.o
      have e3:U.re.length=(tabs (rs.map RawP.raw)).1.length:=by simpa [UpP.up] using e1
      have e4:U.ne.length=(tabs (rs.map RawP.raw)).2.1.length:=by simpa [UpP.up] using e2
      have:=Y.o.re.len
      have:=Y.o.ne.len
      have:=cm.o
      omega)
     go_wp2_with ((with_reducible refine zbZ ?_ (.tmp 10) rfl gb 0 rfl U bu.o I ?_);· rfl)
     refine (zvO w5 (w.heap.size+2) gb U Y.o (Nat.le_of_lt t.o) bc.o.1 bc.o.2).mono ?_
     rintro e w6 ⟨A6,c6,xs,rfl,am,ae,ar,bf,G⟩
     have P6:=hD (P5.o.on G)
     have K6:=hD (K5.o.over G)
     have T6:=hD bf
     have V6:Hid (UpAt w6 (w.heap.size+2) w6.heap.size (gonV A6 c6 xs)):=hD ⟨zjc _ _ _,RowE.nil _ _ _ _,⟨am.more (by have:=t.o;have:=R.o;omega) lr,fun y hy=>mmTb _ _ _ _ _ _ lr (Nat.le_trans (Nat.le_of_lt t.o) G.size) (ae y hy).1,fun y hy=>(ae y hy).2⟩,lr,ar⟩
     have ck:=hD am
     have bz:=hD ae
     have cp:=hD ar
     have ax:=hD G.size
     clear am ae ar bf G P5 K5 bu
     go_wp2_with (refine zaJ rfl (.tmp 10) (.tmp 56) rfl gb rfl (gonV A6 c6 xs) rfl rfl K6.o (zee I) ?_;intro w7 T W;have K7:=hD T;have E:=hD W;clear T W;refine Hid.o ?_)
     refine hD ?_
     have z:=hD (P6.o.grown E.o R.o)
     have K:Hid (∀ q:Addr,q.block<w6.heap.size→q.block≠gb→w7.cell? q=w6.cell? q):=hD (fun q h1 h2=>World.cell?_of_block (E.o.block q.block h1 (fun e=>by injection e with e;exact h2 e)))
     have N:Hid (UpAt w7 (w.heap.size+2) w7.heap.size (gonV A6 c6 xs)∧w7.heap.size≤w7.heap.size):=hD ⟨⟨zjc _ _ _,RowE.nil _ _ _ _,⟨(ck.o.keep (fun q h1 h2=>K.o q h2 (by have:=t.o;omega))).more (by have:=t.o;have:=R.o;omega) E.o.size,fun y hy=>mmTb _ _ _ _ _ _ lr (by have:=t.o;have:=P6.o.bl.size;have:=E.o.size;have:=ax.o;omega) (mkTb _ _ _ _ _ (fun q h1 h2=>K.o q (by have:=ax.o;have:=t.o;omega) (by omega)) (bz.o y hy).1),fun y hy=>(bz.o y hy).2⟩,lr,cp.o⟩,lr⟩
     have O:=hD (zah (l:=updL (gonV A6 c6 xs)) K7.o)
     have av:Hid ((gonV A6 c6 xs).up=⟨zeo,[],(tabs (rs.map RawP.raw)).1.map zjm++(tabs (rs.map RawP.raw)).2.1⟩):=hD (by
      show (⟨zeo,[],xs.map TbP.tb⟩:Up)=_
      rw [T6.o,UP.o])
     go_wp2_with (first
      | ((with_reducible refine zbZ ?_ (.tmp 10) rfl gb 0 rfl (gonV A6 c6 xs) O.o rfl ?_);· rfl)
      | (refine zaJ rfl (.tmp 2) (.tmp 64) rfl w.heap.size rfl (gonV A6 c6 xs) rfl rfl z.o.r rfl ?_;intro w8 j f;have Q:=hD j;have B:=hD f;have V:=hD (z.o.n.grown f (by simp));clear j f;refine Hid.o ?_))
     refine hD ?_
     go_wp2_with (refine zbj rfl (.tmp 4) (.tmp 66) rfl (w.heap.size+1) rfl 0 0 rfl V.o rfl ?_;intro w9 g k;have M:=hD g;have i:=hD k;clear g k;refine Hid.o ?_)
     refine hD ?_
     go_wp2
     refine zeE (c:=2) (q:=3) (d:=4) rfl rfl rfl rfl (Q.o.grown i.o (by simp)) M.o rfl rfl ?_
     exact zhh z.o B.o i.o N.o (by rw [av.o];exact .held _ _ _ HW.o J2.o HO.o aa.o)
    ·have ac:=hD F
     have cz:w5.cell? ⟨gb,24,none⟩=some (.slice U.rA U.rn U.rc):=by rw [K5.o.cell];unfold updC;simpa using ziv I
     have ca:Hid ((tabs (rs.map RawP.raw)).1.length=U.rn):=hD (by
      have e1:=congrArg (fun u:Up=>u.re.length) UP.o
      have e3:U.re.length=(tabs (rs.map RawP.raw)).1.length:=by simpa [UpP.up] using e1
      rw [← e3];exact Y.o.re.len)
     by_cases hr:0<U.rn
     ·have cg:(0:Int)<(U.rn:Int):=by omega
      have cq:=hD (zah (l:=attL p) cu.o)
      go_wp2_with (first
       | ((with_reducible refine zaO ?_ (.tmp 7) rfl w2.heap.size 0 rfl cq.o L ?_);· rfl)
       | (refine zho rfl (.tmp 63) (.tmp 62) rfl gb rfl p rfl L U K5.o I ?_;intro w7 T W;have K7:=hD T;have E:=hD W;clear T W;refine Hid.o ?_))
      refine hD ?_
      have z:=hD (P5.o.grown E.o R.o)
      have K:Hid (∀ q:Addr,q.block<gb→w7.cell? q=w5.cell? q):=hD (fun q h1=>World.cell?_of_block (E.o.block q.block (by have:=t.o;omega) (fun e=>by injection e with e;omega)))
      have N:Hid (UpAt w7 (w.heap.size+2) gb { U with at_:=p }∧gb≤w7.heap.size):=hD ⟨⟨(X5.o.more lr Z.o).keep (fun q h1 h2=>K.o q h2),Y.o.re.keep mkTb (fun q h1 h2=>K.o q h2),Y.o.ne.keep mkTb (fun q h1 h2=>K.o q h2),Y.o.rc,Y.o.nc⟩,by have:=t.o;have:=E.o.size;omega⟩
      have O:=hD (zah (l:=updL { U with at_:=p }) K7.o)
      have av:Hid (UpP.up { U with at_:=p }=⟨p.ats,(tabs (rs.map RawP.raw)).1,(tabs (rs.map RawP.raw)).2.1⟩):=hD (by
       have e:=UP.o
       show (⟨p.ats,U.up.re,U.up.un⟩:Up)=_
       rw [e])
      go_wp2_with (first
       | ((with_reducible refine zbZ ?_ (.tmp 10) rfl gb 0 rfl { U with at_:=p } O.o L ?_);· rfl)
       | (refine zaJ rfl (.tmp 2) (.tmp 64) rfl w.heap.size rfl { U with at_:=p } rfl L z.o.r rfl ?_;intro w8 j f;have Q:=hD j;have B:=hD f;have V:=hD (z.o.n.grown f (by simp));clear j f;refine Hid.o ?_))
      refine hD ?_
      go_wp2_with (refine zbj rfl (.tmp 4) (.tmp 66) rfl (w.heap.size+1) rfl 0 0 rfl V.o rfl ?_;intro w9 g k;have M:=hD g;have i:=hD k;clear g k;refine Hid.o ?_)
      refine hD ?_
      go_wp2
      refine zeE (c:=2) (q:=3) (d:=4) rfl rfl rfl rfl (Q.o.grown i.o (by simp)) M.o L rfl ?_
      exact zhh z.o B.o i.o N.o (by rw [av.o];exact .reach _ _ _ _ HW.o J2.o HO.o aa.o bt.o ac.o (by rw [ca.o];exact hr))
     ·have cg:¬ (0:Int)<(U.rn:Int):=by omega
      have z:=hD P5.o
      have N:Hid (UpAt w5 (w.heap.size+2) gb U∧gb≤w5.heap.size):=hD ⟨Y.o,Nat.le_of_lt t.o⟩
      have O:=hD (zah (l:=updL U) K5.o)
      have K7:=hD K5.o
      go_wp2_with (first
       | ((with_reducible refine zbZ ?_ (.tmp 10) rfl gb 0 rfl U O.o I ?_);· rfl)
       | (refine zaJ rfl (.tmp 2) (.tmp 64) rfl w.heap.size rfl U rfl I z.o.r rfl ?_;intro w8 j f;have Q:=hD j;have B:=hD f;have V:=hD (z.o.n.grown f (by simp));clear j f;refine Hid.o ?_))
      refine hD ?_
      go_wp2_with (refine zbj rfl (.tmp 4) (.tmp 66) rfl (w.heap.size+1) rfl 0 0 rfl V.o rfl ?_;intro w9 g k;have M:=hD g;have i:=hD k;clear g k;refine Hid.o ?_)
      refine hD ?_
      go_wp2
      refine zeE (c:=2) (q:=3) (d:=4) rfl rfl rfl rfl (Q.o.grown i.o (by simp)) M.o I rfl ?_
      exact zhh z.o B.o i.o N.o (by rw [UP.o];exact .none _ _ _ _ HW.o J2.o HO.o aa.o bt.o ac.o (by rw [ca.o];omega))
end
section
open Go.RowKit
set_option maxRecDepth 20000 in
set_option maxHeartbeats 2000000 in
theorem zpC (w:World) (lo g:Nat) (bs:List UInt8) (bad:Bool) (h:Rd w lo g bs bad) :
  Calls prog 188 #[.pointer (some ⟨g,0,none⟩)] w fun e w'=>e = .returned (.agg (zaq (ofS (zab bs 4)) (ofB (zab bs 4))))∧Rd w' lo g (zae bs 4) (bad||!zaY bs 4)∧w.grownBy w' (some g):=by
 have R:=h.lt
 have u:=hD (Blk.new w 26 zAdr)
 have D:Hid (Rd (w.alloc (.cells zAdr 26)) lo g bs bad):=hD (h.keep (zaN (zad w none) _) (by simp))
 have F:Hid (w.grownBy (w.alloc (.cells zAdr 26)) (some g)):=hD (zaN (zad w _) _)
 have hq:w.heap.size+1≤(w.alloc (.cells zAdr 26)).heap.size:=by simp
 clear h
 go_enter func188,ntmps188
 go_wp2_with fail
 generalize hw0:w.alloc (.cells zAdr 26)=w0 at *
 clear hw0
 refine (zaR w0 lo g bs bad D.o 4 (by decide)).mono ?_
 rintro e w1 ⟨W,rfl,f,l,d⟩
 obtain ⟨U,c1,rfl,_,_⟩:=zag f
 have C:=hD f
 have I:=hD l
 have J:=hD (u.o.grown d (fun e=>by injection e;omega))
 have G:=hD (zan F.o d)
 have x:=Nat.le_trans hq d.size
 clear f l d D u F hq
 go_wp2_with fail
 refine (zgF w1 _ _ U _ c1 _ (At.own C.o) lr).mono ?_
 obtain ⟨S,z⟩:∃ S,ofS (zab bs 4)=S:=⟨_,rfl⟩
 obtain ⟨v,hB⟩:∃ v,ofB (zab bs 4)=v:=⟨_,rfl⟩
 have c:v.length=16:=by rw [← hB];exact zb2 _
 rw [z,hB]
 rintro e i ⟨rfl,b⟩
 have K:=hD (I.o.keep (zaQ b none) (by simp))
 have M:=hD (J.o.over b)
 have L:=hD (zan G.o (zaQ b _))
 have N:=Nat.le_trans x b.size
 have m:=hD (Blk.new i 26 zAdr)
 have A:=hD z
 have y:=hD hB
 clear b I J G C z hB
 go_wp2_with (refine zaI rfl (.tmp 3) (.tmp 9) rfl i.heap.size rfl rfl c m.o rfl ?_;intro H t q;have Q:=hD t;have j:=hD q;clear t q;refine Hid.o ?_)
 refine hD ?_
 have a:i.grownBy H none:=⟨j.o.os,j.o.tape,j.o.output,Nat.le_trans (by simp) j.o.size,fun k r _=>(j.o.block k (by simp;omega) (fun e=>by injection e;omega)).trans (Below.heap_alloc i _ k r)⟩
 have P:=hD (K.o.keep a (by simp))
 have O:=hD (M.o.grown a (by simp))
 have B:=hD (zan L.o (show i.grownBy H (some g) from ⟨a.os,a.tape,a.output,a.size,fun k r _=>a.block k r (by simp)⟩))
 clear a j m K M L
 go_wp2_with (first
  | (with_reducible refine zaK rfl (.tmp 3) rfl i.heap.size rfl Q.o c ?_)
  | (refine zaI rfl (.tmp 2) (.tmp 11) rfl w.heap.size rfl rfl c O.o rfl ?_;intro V n s;have T:=hD n;have E:=hD s;clear n s;refine Hid.o ?_))
 refine hD ?_
 go_wp2
 refine zgz (p:=2) rfl rfl T.o c rfl ?_
 refine ⟨by rw [A.o,y.o],P.o.keep E.o (fun k r=>by injection r;exact .inr (by omega)),zm2 B.o E.o lr⟩
theorem zyJ {w:World} {base n c:Nat} {A:Option Addr} {l:List B8} (b:l.length=n) (h:w.ownsRow base 111 8 (.slice A n c) n (bvs (zbs l))):AtE w base w.heap.size A n l:=by
 refine ⟨b,by rw [zff,b],fun hn=>?_⟩
 rcases h.2 with ⟨_,h2⟩ | ⟨g,cap,cur,h1,h2,h3,h4,f,e,d⟩
 ·omega
 ·injection h1 with e1 e2 e3
  have hb:Blk w g 111 cur:=h3
  refine ⟨g,0,e1,h2,hb.lt,fun k u hu=>?_⟩
  rw [Nat.zero_add,hb.cell]
  have a:(bvs (zbs l))[k]?=some (bv u):=by unfold bvs;rw [List.getElem?_map,hu];rfl
  rw [← d,List.getElem?_take] at a
  split at a
  ·simpa using a
  ·cases a
end
section
open Go.RowKit
theorem zyK:(prog.info? 26).map (fun i=>(i.zero.map (·.cells.size),i.size,i.bytes))=some (some 17,17,24):=by kernel_rfl
theorem zwn:∃ (i:TypeInfo) (z:Value),prog.info? 26=some i∧i.zero=some z∧i.size=17∧i.bytes=24∧z.cells.size=17:=by
 have h:=zyK
 cases hq:prog.info? 26 with
 | none=>rw [hq] at h;cases h
 | some i =>
  rw [hq] at h
  simp only [Option.map_some,Option.some.injEq,Prod.mk.injEq] at h
  cases hz:i.zero with
  | none=>rw [hz] at h;simp at h
  | some z =>
   rw [hz] at h
   simp at h
   exact ⟨i,z,rfl,hz,h.2.1,h.2.2,h.1⟩
theorem zwW:∃ z:Value,z.cells.size=17∧∀ w,(zeroValue 26).run prog w = .ok z w:=⟨_,by kernel_rfl,zeroValue26⟩
theorem zj3 {o:Oper} {a:Act} (w:World) (x:Operand) (f:o.op = .buildSlice 31 1 #[(0,x)]) {s:Int} {b:List UInt8} (e:b.length=16) (ex:a.eval x = .agg (zaq s b)) :
  (execOp a.eval o).run prog w = .ok (.value (.slice (some ⟨w.heap.size,0,none⟩) 1 1)) (w.alloc (.cells (zaq s b) 26)):=by
 obtain ⟨z,d,c⟩:=zwW
 have h:=zbQ (P:=prog) w 31 26 (zaq s b) z underlying31 (fun w=>sizeOf26 w) c d (zcv s e) (by decide) (by decide)
 unfold execOp
 simp only [f,List.map_toArray,List.map_cons,List.map_nil,ex,Sem.run_bind,h,Result.andThen_ok,Sem.run_pure]
theorem zyL (x:Int × List UInt8):∀ u∈adL x,u.oneCell'=true:=fun u hu=>by
 simp only [adL,List.mem_cons] at hu
 rcases hu with rfl | hu
 ·rfl
 ·exact zbM _ u hu
theorem zjL (w:World) (base:Nat) (ty:TypeId) (v:Value) (n:Nat) (xs:List (Int × List UInt8)) (b:w.ownsRow base 26 17 v n (za2 adL xs)) (lo hi':Nat) (A:Option Addr) (m c:Nat) (news:List (Int × List UInt8)) (hs:∀ x∈news,x.2.length=16) (hr:AtG adL w lo hi' A m news)
  (hb:n+m≤1000000000000) (a:base≤w.heap.size) :
  ∃ v' w',(Builtin.append_ #[31,31] ty #[v,.slice A m c]).run prog w = .ok v' w'∧w'.ownsRow base 26 17 v' (n+m) (za2 adL (xs++news))∧w.grownBy w' v.ownBlock∧(v'.ownBlock=v.ownBlock∨v'.ownBlock=some w.heap.size):=by
 obtain ⟨i,z,hi,d,h1,h2,h3⟩:=zwn
 exact zb5 (P:=prog) w base 31 ty 26 i z 24 underlying31 hi d h1 h2 h3 (by decide) v n xs b lo hi' A m c news hr (fun y hy=>zhv (hs y hy)) (fun y hy=>zyL y) (by omega) (by unfold maxLen;omega) a
theorem zeq {a b c:World} {g:Nat} {row:Option Nat} (h:a.grownBy b (some g)) (k:b.grownBy c row) (hr:∀ q,row=some q→a.heap.size≤q):a.grownBy c (some g) :=
 ⟨k.os.trans h.os,k.tape.trans h.tape,k.output.trans h.output,Nat.le_trans h.size k.size,fun i hi d=>(k.block i (Nat.lt_of_lt_of_le hi h.size) (fun e=>by have:=hr _ e.symm;omega)).trans (h.block i hi d)⟩
end
end Go.Proofs.YtplpglfjcieloaaGreatDoor
