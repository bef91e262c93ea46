/-
  Tables and updates as cells and as memory. No condition.
  Which tables and updates are right: isMroute, isUroute, rightRoutes, rightTable, few, Right of package update, in whatever memory. The one condition beyond sizes that fit memory: the program's tables hold what its text lays.
-/
import Derived.Test.YtookpplebikfnaaGreatDoorKHAT
import Derived.Test.YtookpplebikfnaaGreatDoorKHBB
set_option linter.unusedVariables false
set_option linter.unusedSimpArgs false
namespace Go.Proofs.YtookpplebikfnaaGreatDoor
section
open Go.RowKit
structure TbP where
 s:Int
 f:Int
 ns:Int
 nb:List UInt8
 mA:Option Addr
 mn:Nat
 mc:Nat
 ms:List Mr
 uA:Option Addr
 un:Nat
 uc:Nat
 us:List Ur
def TbP.tb (x:TbP):Tb:=⟨x.s,x.f,x.ns,x.nb,x.ms,x.us⟩
def tbL (x:TbP):List Value:=.int .i64 x.s :: .int .i64 x.f::((.int .i64 x.ns::bvs x.nb)++[.slice x.mA x.mn x.mc,.slice x.uA x.un x.uc])
def tbC (x:TbP):Array Value:=(tbL x).toArray
def mTb (w:World) (lo hi:Nat) (x:TbP):Prop:=AtG mroL w lo hi x.mA x.mn x.ms∧AtG uroL w lo hi x.uA x.un x.us∧x.mn≤x.mc∧x.un≤x.uc
def wTb (x:TbP):Prop:=x.tb.W
theorem mkTb:MK mTb:=fun _ _ _ _ _ hk h=>⟨h.1.keep hk,h.2.1.keep hk,h.2.2⟩
theorem mmTb:MM mTb:=fun _ _ _ _ _ _ h1 h2 h=>⟨h.1.more h1 h2,h.2.1.more h1 h2,h.2.2⟩
theorem zkj {x:TbP} (h:x.nb.length=16):(tbL x).length=21:=by simp [tbL,bvs,h]
theorem zgn {x:TbP} (h:x.nb.length=16):(tbC x).size=21:=by simp [tbC,tbL,bvs,h]
theorem zcZ {x:TbP} (h:wTb x):x.nb.length=16:=h.nb
theorem zgm {x:TbP} (h:wTb x):(tbL x).length=21:=zkj h.nb
theorem zmA (x:TbP):∀ u∈tbL x,u.oneCell'=true:=fun u hu=>by
 simp only [tbL,List.mem_cons,List.mem_append,List.not_mem_nil,or_false] at hu
 rcases hu with rfl | rfl | (rfl | hu) | rfl | rfl
 all_goals first | rfl | exact zb4 _ u hu
theorem zvE (x:TbP):(tbC x).all (·.oneCell')=true:=by
 rw [Array.all_eq_true_iff_forall_mem]
 intro u hu
 exact zmA x u (by unfold tbC at hu;simpa using hu)
theorem zoL (x:TbP):(tbL x)[0]?=some (.int .i64 x.s):=rfl
theorem zoK (x:TbP):(tbL x)[1]?=some (.int .i64 x.f):=rfl
theorem tbL_2 (x:TbP):(tbL x)[2]?=some (.int .i64 x.ns):=rfl
theorem znO {x:TbP} (h:x.nb.length=16) (j:Nat):(tbL x)[19+j]?=[Value.slice x.mA x.mn x.mc,.slice x.uA x.un x.uc][j]?:=by
 have e:19+j=(17+j)+2:=by omega
 rw [e]
 simp only [tbL,List.getElem?_cons_succ]
 rw [List.getElem?_append_right (by simp [bvs,h])]
 simp [bvs,h]
theorem zls {x:TbP} (h:x.nb.length=16):(tbL x)[19]?=some (.slice x.mA x.mn x.mc):=znO h 0
theorem zlr {x:TbP} (h:x.nb.length=16):(tbL x)[20]?=some (.slice x.uA x.un x.uc):=znO h 1
theorem ztl {x:TbP} {j:Nat} {u:Value} (hu:(Value.int .i64 x.ns::bvs x.nb)[j]?=some u):(tbL x)[2+j]?=some u:=by
 have e:2+j=j+2:=by omega
 rw [e]
 simp only [tbL,List.getElem?_cons_succ]
 rw [List.getElem?_append_left (List.getElem?_eq_some_iff.1 hu).1]
 exact hu
section
variable {ops:Array Oper} {rest:List Oper} {o:Oper} {a:Act} {w:World} {Q:Exit→Act→World→Prop} {x:TbP} {g i:Nat} {t:TypeId}
theorem zvC (h:x.nb.length=16):(Tryz.prog.info? 53).map (·.size)=some (tbL x).length:=by rw [zkj h];kernel_rfl
theorem zhC (p:Operand) (ho:o.op = .load 53 p) (b i:Nat) (hx:a.eval p = .pointer (some ⟨b,i,none⟩)) {x:TbP} (h:w.rangeAt b i (tbL x)) (hl:x.nb.length=16) :
  (execOp a.eval o).run Tryz.prog w = .ok (.value (.agg (tbC x))) w:=by
 unfold execOp
 simp only [ho,hx,Instr.loadAt,Instr.sureAddr,Sem.run_bind,Sem.run_pure,Result.andThen_ok,run_loadVar_mid w b i 53 _ _ h Tryz.underlying53 rfl (zvC hl)]
 rfl
theorem zan (hw:Region.wanted o (yielded ops a.tmps)=true) (p:Operand) (ho:o.op = .load 53 p) (b i:Nat) (hx:a.eval p = .pointer (some ⟨b,i,none⟩)) (x:TbP) (h:w.rangeAt b i (tbL x)) (hl:x.nb.length=16)
  (hk:wpList Tryz.prog ops Q rest (a.put o.dst (.agg (tbC x))) w):wpList Tryz.prog ops Q (o::rest) a w :=
 zam hw (zhC p ho b i hx h hl) hk
theorem zbW (hgd:o.guard=none) (p y:Operand) (ho:o.op = .store 53 p y) (g:Nat) (hx:a.eval p = .pointer (some ⟨g,0,none⟩)) (x:TbP) (hy:a.eval y = .agg (tbC x)) (hl:x.nb.length=16) {t:TypeId} {old:Array Value} (h:Blk w g t old) (hold:old.size=21)
  (hk:∀ w',Blk w' g t (tbC x)→w.grownBy w' (some g)→wpList Tryz.prog ops Q rest (a.put o.dst undef) w'):wpList Tryz.prog ops Q (o::rest) a w :=
 wpList_store_row hgd 53 p y ho g (tbC x) hx hy t old h (by rw [zgn hl];kernel_rfl) (by rw [hold,zgn hl]) (zvE x) (hk _ (h.setRow _) (zaK _ _ _))
theorem zvD {x:TbP} (h:w.rangeAt g i (tbL x)):w.rangeAt g (i+2) (.int .i64 x.ns::bvs x.nb):=fun j u hu=>by
 have h1:=h (2+j) u (ztl hu)
 rwa [← Nat.add_assoc] at h1
theorem zcR (p:Operand) (ho:o.op = .load 25 p) (g i:Nat) (hx:a.eval p = .pointer (some ⟨g,i+2,none⟩)) {x:TbP} (h:w.rangeAt g i (tbL x)) (hl:x.nb.length=16) :
  (execOp a.eval o).run Tryz.prog w = .ok (.value (.agg (zaq x.ns x.nb))) w:=by
 have hs:(Tryz.prog.info? 25).map (·.size)=some (Value.int .i64 x.ns::bvs x.nb).length:=by
  rw [show (Value.int .i64 x.ns::bvs x.nb).length=17 by simp [bvs,hl]];kernel_rfl
 unfold execOp
 simp only [ho,hx,Instr.loadAt,Instr.sureAddr,Sem.run_bind,Sem.run_pure,Result.andThen_ok,run_loadVar_mid w g (i+2) 25 _ _ (zvD h) Tryz.underlying25 rfl hs]
 rfl
end
structure TbS (w y:World) (lo hi:Nat) (x:TbP):Prop where
 b:Blk y w.heap.size 53 (tbC x)
 m:mTb y lo hi x
 bl:Below w.heap.size w y
 hh:hi≤w.heap.size
 sz:wTb x
section
variable {w y z:World} {lo hi:Nat} {x:TbP}
theorem TbS.start (h:mTb w lo hi x) (hw:wTb x) (hh:hi≤w.heap.size):TbS w (w.alloc (.cells (tbC x) 53)) lo hi x :=
 ⟨Blk.new w _ _,mkTb w _ lo hi x (fun p _ hp=>World.cell?_alloc_lt w _ p (by omega)) h,(Below.refl _ _).alloc (Nat.le_refl _) _,hh,hw⟩
theorem TbS.on (h:TbS w y lo hi x) (hb:Below y.heap.size y z):TbS w z lo hi x :=
 ⟨h.b.over hb,mkTb y z lo hi x (fun p _ hp=>hb.cell (p:=p) (by have:=h.bl.size;have:=h.hh;omega)) h.m,zaa h.bl hb (Nat.le_refl _),h.hh,h.sz⟩
theorem TbS.drew (h:TbS w y lo hi x):TbS w y.drew lo hi x:=h.on (zal (Below.refl _ _))
theorem TbS.new (h:TbS w y lo hi x) (ob:Obj):TbS w (y.alloc ob) lo hi x:=h.on ((Below.refl _ _).alloc (Nat.le_refl _) ob)
theorem TbS.c (h:TbS w y lo hi x) {j:Nat} {u:Value} (hu:(tbL x)[j]?=some u):y.cell? ⟨w.heap.size,j,none⟩=some u:=by
 rw [h.b.cell];unfold tbC;simpa using hu
theorem TbS.c0 (h:TbS w y lo hi x):y.cell? ⟨w.heap.size,0,none⟩=some (.int .i64 x.s):=h.c (zoL x)
theorem TbS.c1 (h:TbS w y lo hi x):y.cell? ⟨w.heap.size,1,none⟩=some (.int .i64 x.f):=h.c (zoK x)
theorem TbS.c2 (h:TbS w y lo hi x):y.cell? ⟨w.heap.size,2,none⟩=some (.int .i64 x.ns):=h.c (tbL_2 x)
theorem TbS.c19 (h:TbS w y lo hi x):y.cell? ⟨w.heap.size,19,none⟩=some (.slice x.mA x.mn x.mc):=h.c (zls h.sz.nb)
theorem TbS.c20 (h:TbS w y lo hi x):y.cell? ⟨w.heap.size,20,none⟩=some (.slice x.uA x.un x.uc):=h.c (zlr h.sz.nb)
theorem TbS.rng (h:TbS w y lo hi x):y.rangeAt w.heap.size 0 (tbL x):=zaj (l:=tbL x) h.b
theorem TbS.size (h:TbS w y lo hi x):w.heap.size<y.heap.size:=h.b.lt
end
structure UpP where
 at_:AtP
 rA:Option Addr
 rn:Nat
 rc:Nat
 re:List TbP
 nA:Option Addr
 nn:Nat
 nc:Nat
 ne:List TbP
def UpP.up (u:UpP):Up:=⟨u.at_.ats,u.re.map TbP.tb,u.ne.map TbP.tb⟩
def updL (u:UpP):List Value:=attL u.at_++[.slice u.rA u.rn u.rc,.slice u.nA u.nn u.nc]
def updC (u:UpP):Array Value:=(updL u).toArray
structure UpAt (w:World) (lo hi:Nat) (u:UpP):Prop where
 at_:zar w lo hi u.at_
 re:RowE tbL mTb wTb w lo hi u.rA u.rn u.re
 ne:RowE tbL mTb wTb w lo hi u.nA u.nn u.ne
 rc:u.rn≤u.rc
 nc:u.nn≤u.nc
section
variable {w w':World} {lo hi lo' hi':Nat} {u:UpP}
theorem UpAt.keep (h:UpAt w lo hi u) (hk:∀ q:Addr,lo≤q.block→q.block<hi→w'.cell? q=w.cell? q):UpAt w' lo hi u :=
 ⟨h.at_.keep hk,h.re.keep mkTb hk,h.ne.keep mkTb hk,h.rc,h.nc⟩
theorem UpAt.below (h:UpAt w lo hi u) (hb:Below hi w w'):UpAt w' lo hi u:=h.keep fun _ _ hp=>hb.cell hp
theorem UpAt.more (h:UpAt w lo hi u) (hl:lo'≤lo) (hh:hi≤hi'):UpAt w lo' hi' u :=
 ⟨h.at_.more hl hh,h.re.more mmTb hl hh,h.ne.more mmTb hl hh,h.rc,h.nc⟩
theorem UpAt.ob (h:UpAt w lo hi u):u.at_.ob.length=16:=h.at_.ob
end
theorem znJ {u:UpP} (h:u.at_.ob.length=16):(updL u).length=26:=by unfold updL;rw [List.length_append,zbg h];rfl
theorem zgj {u:UpP} (h:u.at_.ob.length=16):(updC u).size=26:=by unfold updC;rw [List.size_toArray,znJ h]
theorem zth (x:UpP):∀ u∈updL x,u.oneCell'=true:=fun u hu=>by
 rcases List.mem_append.1 (show u∈attL x.at_++_ from hu) with hu | hu
 ·exact zk6 x.at_ u hu
 ·simp only [List.mem_cons,List.not_mem_nil,or_false] at hu
  rcases hu with rfl | rfl <;> rfl
theorem zti (x:UpP):(updC x).all (·.oneCell')=true:=by
 rw [Array.all_eq_true_iff_forall_mem]
 intro u hu
 exact zth x u (by unfold updC at hu;simpa using hu)
theorem zgV {u:UpP} (h:u.at_.ob.length=16):(updL u)[24]?=some (.slice u.rA u.rn u.rc):=by
 unfold updL
 rw [List.getElem?_append_right (by rw [zbg h];exact Nat.le_refl _),zbg h]
 rfl
theorem zeY {u:UpP} (h:u.at_.ob.length=16):(updL u)[25]?=some (.slice u.nA u.nn u.nc):=by
 unfold updL
 rw [List.getElem?_append_right (by rw [zbg h];decide),zbg h]
 rfl
theorem zmx {w:World} {g i:Nat} {u:UpP} (h:w.rangeAt g i (updL u)):w.rangeAt g i (attL u.at_):=fun j v hv=>h j v (by
 unfold updL
 rw [List.getElem?_append_left (List.getElem?_eq_some_iff.1 hv).1]
 exact hv)
section
variable {ops:Array Oper} {rest:List Oper} {o:Oper} {a:Act} {w:World} {Q:Exit→Act→World→Prop}
theorem znI {u:UpP} (h:u.at_.ob.length=16):(Tryz.prog.info? 33).map (·.size)=some (updL u).length:=by rw [znJ h];kernel_rfl
theorem zkR (p:Operand) (ho:o.op = .load 33 p) (b i:Nat) (hx:a.eval p = .pointer (some ⟨b,i,none⟩)) {u:UpP} (h:w.rangeAt b i (updL u)) (hl:u.at_.ob.length=16) :
  (execOp a.eval o).run Tryz.prog w = .ok (.value (.agg (updC u))) w:=by
 unfold execOp
 simp only [ho,hx,Instr.loadAt,Instr.sureAddr,Sem.run_bind,Sem.run_pure,Result.andThen_ok,run_loadVar_mid w b i 33 _ _ h Tryz.underlying33 rfl (znI hl)]
 rfl
theorem zaV (hw:Region.wanted o (yielded ops a.tmps)=true) (p:Operand) (ho:o.op = .load 33 p) (b i:Nat) (hx:a.eval p = .pointer (some ⟨b,i,none⟩)) (u:UpP) (h:w.rangeAt b i (updL u)) (hl:u.at_.ob.length=16)
  (hk:wpList Tryz.prog ops Q rest (a.put o.dst (.agg (updC u))) w):wpList Tryz.prog ops Q (o::rest) a w :=
 zam hw (zkR p ho b i hx h hl) hk
theorem zau (hgd:o.guard=none) (p y:Operand) (ho:o.op = .store 33 p y) (g:Nat) (hx:a.eval p = .pointer (some ⟨g,0,none⟩)) (u:UpP) (hy:a.eval y = .agg (updC u)) (hl:u.at_.ob.length=16) {t:TypeId} {old:Array Value} (h:Blk w g t old) (hold:old.size=26)
  (hk:∀ w',Blk w' g t (updC u)→w.grownBy w' (some g)→wpList Tryz.prog ops Q rest (a.put o.dst undef) w'):wpList Tryz.prog ops Q (o::rest) a w :=
 wpList_store_row hgd 33 p y ho g (updC u) hx hy t old h (by rw [zgj hl];kernel_rfl) (by rw [hold,zgj hl]) (zti u) (hk _ (h.setRow _) (zaK _ _ _))
end
structure UpS (w y:World) (lo hi:Nat) (u:UpP):Prop where
 b:Blk y w.heap.size 33 (updC u)
 at_:UpAt y lo hi u
 bl:Below w.heap.size w y
 hh:hi≤w.heap.size
section
variable {w y z:World} {lo hi:Nat} {u:UpP}
theorem UpS.start (h:UpAt w lo hi u) (hh:hi≤w.heap.size):UpS w (w.alloc (.cells (updC u) 33)) lo hi u :=
 ⟨Blk.new w _ _,h.keep fun p _ hp=>World.cell?_alloc_lt w _ p (by omega),(Below.refl _ _).alloc (Nat.le_refl _) _,hh⟩
theorem UpS.on (h:UpS w y lo hi u) (hb:Below y.heap.size y z):UpS w z lo hi u :=
 ⟨h.b.over hb,h.at_.keep fun p _ hp=>hb.cell (p:=p) (by have:=h.bl.size;have:=h.hh;omega),zaa h.bl hb (Nat.le_refl _),h.hh⟩
theorem UpS.drew (h:UpS w y lo hi u):UpS w y.drew lo hi u:=h.on (zal (Below.refl _ _))
theorem UpS.new (h:UpS w y lo hi u) (ob:Obj):UpS w (y.alloc ob) lo hi u:=h.on ((Below.refl _ _).alloc (Nat.le_refl _) ob)
theorem UpS.grown (h:UpS w y lo hi u) {r:Option Nat} (hg:y.grownBy z r) (hr:∀ k,r=some k→w.heap.size<k):UpS w z lo hi u :=
 ⟨h.b.grown hg (fun e=>by have:=hr _ e.symm;omega),h.at_.keep (fun p _ hp=>World.cell?_of_block (hg.block p.block (by have:=h.bl.size;have:=h.hh;omega) (fun e=>by have:=hr _ e.symm;have:=h.hh;omega))),h.bl.grown hg h.bl.size (fun k hk=>by have:=hr k hk;omega),h.hh⟩
theorem UpS.c (h:UpS w y lo hi u) {j:Nat} {v:Value} (hu:(updL u)[j]?=some v):y.cell? ⟨w.heap.size,j,none⟩=some v:=by
 rw [h.b.cell];unfold updC;simpa using hu
theorem UpS.c24 (h:UpS w y lo hi u):y.cell? ⟨w.heap.size,24,none⟩=some (.slice u.rA u.rn u.rc):=h.c (zgV h.at_.ob)
theorem UpS.c25 (h:UpS w y lo hi u):y.cell? ⟨w.heap.size,25,none⟩=some (.slice u.nA u.nn u.nc):=h.c (zeY h.at_.ob)
theorem UpS.rng (h:UpS w y lo hi u):y.rangeAt w.heap.size 0 (updL u):=zaj (l:=updL u) h.b
theorem UpS.ratt (h:UpS w y lo hi u):y.rangeAt w.heap.size 0 (attL u.at_):=zmx h.rng
theorem UpS.here (h:UpS w y lo hi u):hi≤y.heap.size:=Nat.le_trans h.hh h.bl.size
end
end
section
set_option maxRecDepth 20000
set_option maxHeartbeats 1000000
open Go.RowKit
theorem zwf (b:List UInt8) (k:Int):(zmV b k).W:=by
 unfold zmV
 split
 ·exact ⟨rfl,rfl,rfl,rfl⟩
 ·exact zkk b k
theorem zmy {m:Mr} (w:m.W):(outB m).length≤110:=by
 unfold outB
 cases h:zbn m
 ·exact Nat.zero_le _
 ·exact zfi w h
structure FitT (x:TbP):Prop where
 m:x.mn≤1260000000000
 u:x.un≤3000000000000
 k:∀ m∈x.ms,m.key.length≤140737488351232
theorem zr3 (w:World) (m:Mr) (s:Int) (hm:m.W) (hkey:m.key.length≤140737488351232) (hN:zaM w) :
  Calls Tryz.prog 134 #[.agg (mroC m),.int .i64 s] w fun e w'=>e = .returned (.bool (isM s m))∧Below w.heap.size w w':=by
 have W0:=hide ((Below.refl w.heap.size w).alloc (Nat.le_refl _) (.cells (mroC m) 86))
 have HB:=hide (Blk.new w 86 (mroC m))
 have HN:=hide (hN.below W0.out)
 have HM:=hide hm
 have HO:=hide (zmy hm)
 have HKY:=hide hkey
 have HP:=hide (zwf (outB m) s)
 obtain ⟨r,hr⟩:∃ r,isM s m=r:=⟨_,rfl⟩
 have HR:Hid (decide (zkz (outB m) s=0)=r):=hide hr
 rw [hr]
 clear hr hm hN hkey
 go_enter Tryz.func134,Tryz.ntmps134
 go_wp2_with (with_reducible refine zaz rfl (.tmp 2) rfl w.heap.size rfl HB.out HM.out ?_)
 refine (zha _ m HM.out HKY.out HN.out).mono ?_
 rintro e w1 ⟨v1,rfl,ho1,hb1⟩
 obtain ⟨A1,c1,rfl,hc1,_⟩:=zac ho1
 have AT1:=hide (At.own ho1)
 have W1:=hide (zaa W0.out hb1 (Nat.le_refl _))
 have N1:=hide (HN.out.below hb1)
 have hl1:(outB m).length≤10000000000000:=by have:=HO.out;omega
 generalize errB m=er at *
 clear ho1 hb1
 go_wp2_with fail
 refine (zpz w1 _ _ A1 _ c1 (outB m) s AT1.out (Nat.le_refl _) hc1 hl1 N1.out).mono ?_
 generalize zmV (outB m) s=pr at *
 generalize zkz (outB m) s=pe at *
 rintro e w2 ⟨rfl,hb2⟩
 have W2:=hide (zaa W1.out hb2 (Nat.le_refl _))
 have NEW:=hide (Blk.new w2 86 zMro)
 clear hb2
 go_wp2_with (refine zao rfl (.tmp 7) (.tmp 18) rfl w2.heap.size rfl (m:=pr) rfl HP.out NEW.out rfl ?_;intro w3 hb3 hg3;have W3:Hid (Below w2.heap.size w2 w3):=hide (((Below.refl _ _).alloc (Nat.le_refl _) _).grown hg3 (by simp) (by simp));clear hb3 hg3;refine Hid.out ?_)
 refine hide ?_
 clear NEW
 go_wp2
 go_ret
 exact ⟨by rw [← HR.out];rfl,zaa W2.out W3.out (Nat.le_refl _)⟩
theorem zr2 (w:World) (u:Ur) (s:Int) (hu:u.W) :
  Calls Tryz.prog 137 #[.agg (uroC u),.int .i64 s] w fun e w'=>e = .returned (.bool (isU s u))∧Below w.heap.size w w':=by
 have W0:=hide ((Below.refl w.heap.size w).alloc (Nat.le_refl _) (.cells (uroC u) 130))
 have HB:=hide (Blk.new w 130 (uroC u))
 have HU:=hide hu
 obtain ⟨r,hr⟩:∃ r,zbH u=r:=⟨_,rfl⟩
 have HR:=hide hr
 unfold isU
 rw [hr]
 clear hr hu
 go_enter Tryz.func137,Tryz.ntmps137
 go_wp2_with (with_reducible refine zbE rfl (.tmp 2) rfl w.heap.size rfl HB.out HU.out ?_)
 refine (zgU _ u HU.out).mono ?_
 rw [HR.out]
 rintro e w1 ⟨rfl,hb1⟩
 have W1:=hide (zaa W0.out hb1 (Nat.le_refl _))
 have k8:w1.cell? ⟨w.heap.size,8,none⟩=some (.int .i64 u.s):=((HB.out.over hb1).cell 8).trans (uroC_s HU.out)
 clear hb1
 cases r
 ·go_wp2
  go_ret
  exact ⟨rfl,W1.out⟩
 ·go_wp2
  go_ret
  exact ⟨by rw [Bool.true_and];rfl,W1.out⟩
theorem zrB (w:World) (m:Mr) (s:Int) (hm:m.W) (hkey:m.key.length≤140737488351232) (hN:zaM w) (g:Nat) (c0:w.cell? ⟨g,0,none⟩=some (.int .i64 s)) :
  Calls Tryz.prog 133 #[.agg (mroC m),.pointer (some ⟨g,0,none⟩)] w fun e w'=>e = .returned (.bool (!isM s m))∧Below w.heap.size w w':=by
 have W0:=hide ((Below.refl w.heap.size w).alloc (Nat.le_refl _) (.cells (mroC m) 86))
 have HB:=hide (Blk.new w 86 (mroC m))
 have HM:=hide hm
 have k0:(w.alloc (.cells (mroC m) 86)).cell? ⟨g,0,none⟩=some (.int .i64 s):=(World.cell?_alloc_lt w _ _ (World.block_lt_of_cell? _ _ c0)).trans c0
 have HN:=hide (hN.below W0.out)
 have HKY:=hide hkey
 obtain ⟨r,hr⟩:∃ r,isM s m=r:=⟨_,rfl⟩
 have HR:=hide hr
 rw [hr]
 clear hr hm c0
 go_enter Tryz.func133,Tryz.ntmps133
 go_wp2_with (with_reducible refine zaz rfl (.tmp 2) rfl w.heap.size rfl HB.out HM.out ?_)
 refine (zr3 _ m s HM.out HKY.out HN.out).mono ?_
 rw [HR.out]
 rintro e w1 ⟨rfl,hb1⟩
 go_wp2
 go_ret
 exact ⟨rfl,zaa W0.out hb1 (Nat.le_refl _)⟩
theorem znd (w:World) (lo hi:Nat) (A:Option Addr) (n c:Nat) (l:List Mr) (h:AtG mroL w lo hi A n l) (hw:∀ m∈l,m.W) (hh:hi≤w.heap.size) (hn:n≤3000000000000) (hkey:∀ m∈l,m.key.length≤140737488351232) (hN:zaM w) (s:Int) (g:Nat) (c0:w.cell? ⟨g,0,none⟩=some (.int .i64 s)) :
  Calls Tryz.prog 155 #[.slice A n c,.func (.func 133) #[] #[.pointer (some ⟨g,0,none⟩)]] w fun e w'=>∃ r:Int,e = .returned (.int .i64 r)∧decide (0≤r)=(!l.all (isM s))∧Below w.heap.size w w':=by
 have H:=hide h
 have HL:=hide h.len
 have HC:=hide c0
 have HW:=hide hw
 have HGS:=hide (World.block_lt_of_cell? _ _ c0)
 have HKY:=hide hkey
 have HNM:=hide hN
 clear hkey hN
 clear h c0 hw
 go_enter Tryz.func155,Tryz.ntmps155
 go_wp2_with fail
 go_loopw [8] (fun i wr=>∃ k:Nat,k≤n∧i = .int .i64 k∧(∀ x∈l.take k,isM s x=true)∧Below w.heap.size w wr) (fun i _=>n-(intOf i).toNat)
 case atStart=>exact ⟨0,Nat.zero_le _,rfl,(fun x hx=>by simp at hx),Below.refl _ _⟩
 case round =>
  obtain ⟨k,hk,rfl,hall,hbel⟩:=hrel
  have HA:=hide hall
  have WB:=hide hbel
  clear hall hbel
  by_cases hlt:k<n
  ·have YR:=hide (H.out.below (WB.out.mono hh))
   obtain ⟨b,o,x,rfl,_,_,hx,hat⟩:=YR.out.at_ (sz:=62) (fun y hy=>zdC (HW.out y hy)) hlt
   have hmem:=List.mem_of_getElem? hx
   have HM:=hide (HW.out x hmem)
   have XK:=hide (HKY.out x hmem)
   have N1:=hide (HNM.out.below WB.out)
   have HX:=hide hx
   have HAT:=hide hat
   have HG:=hide ((WB.out.cell (p:=⟨g,0,none⟩) HGS.out).trans HC.out)
   obtain ⟨r,hr⟩:∃ r,isM s x=r:=⟨_,rfl⟩
   have HR:=hide hr
   have hkl:((k:Nat):Int)<(n:Int):=by omega
   clear hx hat hmem hr YR
   go_wp2_with (with_reducible refine zdV rfl (.tmp 14) rfl b (o+k*62) rfl HAT.out HM.out ?_)
   refine (zrB wr x s HM.out XK.out N1.out g HG.out).mono ?_
   rw [HR.out]
   rintro e w1 ⟨rfl,hb1⟩
   have WB1:=hide (zaa WB.out hb1 (Nat.le_refl _))
   clear hb1
   cases r
   ·have HF:Hid (l.all (isM s)=false):=hide (List.all_eq_false.2 ⟨x,List.mem_of_getElem? HX.out,by rw [HR.out];decide⟩)
    go_wp2_with fail
    go_ret
    exact ⟨_,rfl,by rw [HF.out];exact decide_eq_true (by omega),WB1.out⟩
   ·have HNX:Hid (∀ y∈l.take (k+1),isM s y=true):=hide (by
     intro y hy
     rw [List.take_add_one,HX.out] at hy
     rcases List.mem_append.1 hy with hy | hy
     ·exact HA.out y hy
     ·rw [show y=x by simpa using hy];exact HR.out)
    go_wp2_with fail
    go_roundw
    case rel=>exact ⟨k+1,by omega,by go_num,HNX.out,WB1.out⟩
    case measure=>simp [intOf];omega
  ·obtain rfl:k=n:=by omega
   have HF:Hid (l.all (isM s)=true):=hide (by
    rw [List.all_eq_true]
    intro x hx
    exact HA.out x (by rw [List.take_of_length_le (by rw [HL.out];exact Nat.le_refl _)];exact hx))
   go_wp2
   go_ret
   exact ⟨_,rfl,by rw [HF.out];rfl,WB.out⟩
theorem zjw (w:World) (lo hi:Nat) (A:Option Addr) (n c:Nat) (l:List Mr) (h:AtG mroL w lo hi A n l) (hw:∀ m∈l,m.W) (hh:hi≤w.heap.size) (hn:n≤3000000000000) (hkey:∀ m∈l,m.key.length≤140737488351232) (hN:zaM w) (s:Int) (g:Nat) (c0:w.cell? ⟨g,0,none⟩=some (.int .i64 s)) :
  Calls Tryz.prog 135 #[.slice A n c,.func (.func 133) #[] #[.pointer (some ⟨g,0,none⟩)]] w fun e w'=>e = .returned (.bool (!l.all (isM s)))∧Below w.heap.size w w':=by
 have HC:=hide (znd w lo hi A n c l h hw hh hn hkey hN s g c0)
 obtain ⟨q,hq⟩:∃ q,l.all (isM s)=q:=⟨_,rfl⟩
 have HQ:=hide hq
 rw [hq]
 clear h hw hq c0
 go_enter Tryz.func135,Tryz.ntmps135
 go_wp2_with fail
 refine HC.out.mono ?_
 rintro e w1 ⟨r,rfl,hr,hb1⟩
 rw [HQ.out] at hr
 cases q
 ·have h0:(0:Int)≤r:=of_decide_eq_true hr
  clear hr
  go_wp2
  go_ret
  exact ⟨rfl,hb1⟩
 ·have h0:¬ (0:Int)≤r:=of_decide_eq_false hr
  clear hr
  go_wp2
  go_ret
  exact ⟨by show Ending.returned (.bool (decide (0≤r)))=_;rw [decide_eq_false (by omega)];rfl,hb1⟩
theorem zrA (w:World) (m:Ur) (s:Int) (hm:m.W) (g:Nat) (c0:w.cell? ⟨g,0,none⟩=some (.int .i64 s)) :
  Calls Tryz.prog 136 #[.agg (uroC m),.pointer (some ⟨g,0,none⟩)] w fun e w'=>e = .returned (.bool (!isU s m))∧Below w.heap.size w w':=by
 have W0:=hide ((Below.refl w.heap.size w).alloc (Nat.le_refl _) (.cells (uroC m) 130))
 have HB:=hide (Blk.new w 130 (uroC m))
 have HM:=hide hm
 have k0:(w.alloc (.cells (uroC m) 130)).cell? ⟨g,0,none⟩=some (.int .i64 s):=(World.cell?_alloc_lt w _ _ (World.block_lt_of_cell? _ _ c0)).trans c0
 obtain ⟨r,hr⟩:∃ r,isU s m=r:=⟨_,rfl⟩
 have HR:=hide hr
 rw [hr]
 clear hr hm c0
 go_enter Tryz.func136,Tryz.ntmps136
 go_wp2_with (with_reducible refine zbE rfl (.tmp 2) rfl w.heap.size rfl HB.out HM.out ?_)
 refine (zr2 _ m s HM.out).mono ?_
 rw [HR.out]
 rintro e w1 ⟨rfl,hb1⟩
 go_wp2
 go_ret
 exact ⟨rfl,zaa W0.out hb1 (Nat.le_refl _)⟩
theorem znc (w:World) (lo hi:Nat) (A:Option Addr) (n c:Nat) (l:List Ur) (h:AtG uroL w lo hi A n l) (hw:∀ m∈l,m.W) (hh:hi≤w.heap.size) (hn:n≤3000000000000) (s:Int) (g:Nat) (c0:w.cell? ⟨g,0,none⟩=some (.int .i64 s)) :
  Calls Tryz.prog 156 #[.slice A n c,.func (.func 136) #[] #[.pointer (some ⟨g,0,none⟩)]] w fun e w'=>∃ r:Int,e = .returned (.int .i64 r)∧decide (0≤r)=(!l.all (isU s))∧Below w.heap.size w w':=by
 have H:=hide h
 have HL:=hide h.len
 have HC:=hide c0
 have HW:=hide hw
 have HGS:=hide (World.block_lt_of_cell? _ _ c0)
 clear h c0 hw
 go_enter Tryz.func156,Tryz.ntmps156
 go_wp2_with fail
 go_loopw [8] (fun i wr=>∃ k:Nat,k≤n∧i = .int .i64 k∧(∀ x∈l.take k,isU s x=true)∧Below w.heap.size w wr) (fun i _=>n-(intOf i).toNat)
 case atStart=>exact ⟨0,Nat.zero_le _,rfl,(fun x hx=>by simp at hx),Below.refl _ _⟩
 case round =>
  obtain ⟨k,hk,rfl,hall,hbel⟩:=hrel
  have HA:=hide hall
  have WB:=hide hbel
  clear hall hbel
  by_cases hlt:k<n
  ·have YR:=hide (H.out.below (WB.out.mono hh))
   obtain ⟨b,o,x,rfl,_,_,hx,hat⟩:=YR.out.at_ (sz:=27) (fun y hy=>zdX (HW.out y hy)) hlt
   have hmem:=List.mem_of_getElem? hx
   have HM:=hide (HW.out x hmem)
   have HX:=hide hx
   have HAT:=hide hat
   have HG:=hide ((WB.out.cell (p:=⟨g,0,none⟩) HGS.out).trans HC.out)
   obtain ⟨r,hr⟩:∃ r,isU s x=r:=⟨_,rfl⟩
   have HR:=hide hr
   have hkl:((k:Nat):Int)<(n:Int):=by omega
   clear hx hat hmem hr YR
   go_wp2_with (with_reducible refine zdT rfl (.tmp 14) rfl b (o+k*27) rfl HAT.out HM.out ?_)
   refine (zrA wr x s HM.out g HG.out).mono ?_
   rw [HR.out]
   rintro e w1 ⟨rfl,hb1⟩
   have WB1:=hide (zaa WB.out hb1 (Nat.le_refl _))
   clear hb1
   cases r
   ·have HF:Hid (l.all (isU s)=false):=hide (List.all_eq_false.2 ⟨x,List.mem_of_getElem? HX.out,by rw [HR.out];decide⟩)
    go_wp2_with fail
    go_ret
    exact ⟨_,rfl,by rw [HF.out];exact decide_eq_true (by omega),WB1.out⟩
   ·have HNX:Hid (∀ y∈l.take (k+1),isU s y=true):=hide (by
     intro y hy
     rw [List.take_add_one,HX.out] at hy
     rcases List.mem_append.1 hy with hy | hy
     ·exact HA.out y hy
     ·rw [show y=x by simpa using hy];exact HR.out)
    go_wp2_with fail
    go_roundw
    case rel=>exact ⟨k+1,by omega,by go_num,HNX.out,WB1.out⟩
    case measure=>simp [intOf];omega
  ·obtain rfl:k=n:=by omega
   have HF:Hid (l.all (isU s)=true):=hide (by
    rw [List.all_eq_true]
    intro x hx
    exact HA.out x (by rw [List.take_of_length_le (by rw [HL.out];exact Nat.le_refl _)];exact hx))
   go_wp2
   go_ret
   exact ⟨_,rfl,by rw [HF.out];rfl,WB.out⟩
theorem zjv (w:World) (lo hi:Nat) (A:Option Addr) (n c:Nat) (l:List Ur) (h:AtG uroL w lo hi A n l) (hw:∀ m∈l,m.W) (hh:hi≤w.heap.size) (hn:n≤3000000000000) (s:Int) (g:Nat) (c0:w.cell? ⟨g,0,none⟩=some (.int .i64 s)) :
  Calls Tryz.prog 138 #[.slice A n c,.func (.func 136) #[] #[.pointer (some ⟨g,0,none⟩)]] w fun e w'=>e = .returned (.bool (!l.all (isU s)))∧Below w.heap.size w w':=by
 have HC:=hide (znc w lo hi A n c l h hw hh hn s g c0)
 obtain ⟨q,hq⟩:∃ q,l.all (isU s)=q:=⟨_,rfl⟩
 have HQ:=hide hq
 rw [hq]
 clear h hw hq c0
 go_enter Tryz.func138,Tryz.ntmps138
 go_wp2_with fail
 refine HC.out.mono ?_
 rintro e w1 ⟨r,rfl,hr,hb1⟩
 rw [HQ.out] at hr
 cases q
 ·have h0:(0:Int)≤r:=of_decide_eq_true hr
  clear hr
  go_wp2
  go_ret
  exact ⟨rfl,hb1⟩
 ·have h0:¬ (0:Int)≤r:=of_decide_eq_false hr
  clear hr
  go_wp2
  go_ret
  exact ⟨by show Ending.returned (.bool (decide (0≤r)))=_;rw [decide_eq_false (by omega)];rfl,hb1⟩
theorem zmM (w:World) (lo hi:Nat) (x:TbP) (h:mTb w lo hi x) (hw:wTb x) (hh:hi≤w.heap.size) (hfit:FitT x) (hN:zaM w) :
  Calls Tryz.prog 92 #[.agg (tbC x)] w fun e w'=>e = .returned (.bool (zdy x.tb))∧Below w.heap.size w w':=by
 have S0:=hide (TbS.start h hw hh)
 have N0:=hide (hN.below S0.out.bl)
 have c0:=hide S0.out.c0
 have c1:=S0.out.c1
 have c19:=S0.out.c19
 have c20:=S0.out.c20
 have HFT:=hide hfit
 have HLM:=hide h.1.len
 have HLU:=hide h.2.1.len
 have HH:=hide (show hi≤(w.alloc (.cells (tbC x) 53)).heap.size from Nat.le_trans hh S0.out.bl.size)
 have h1:x.mn≤3000000000000:=by have:=hfit.m;omega
 have h2:x.un≤3000000000000:=by have:=hfit.u;omega
 clear h hw hfit hN
 by_cases hf:x.f=5
 ·have HFU:Hid (zdy x.tb=(decide (x.us.length=0)&&x.ms.all (isM x.s))):=hide (by unfold zdy;rw [if_pos (show x.tb.f=5 from hf)];rfl)
  rw [HFU.out,HLU.out]
  by_cases hu:x.un=0
  ·have hu2:((x.un:Nat):Int)=0:=by omega
   rw [decide_eq_true hu,Bool.true_and]
   obtain ⟨r,hr⟩:∃ r,x.ms.all (isM x.s)=r:=⟨_,rfl⟩
   have HR:=hide hr
   rw [hr]
   clear hr hu
   go_enter Tryz.func92,Tryz.ntmps92
   go_wp2_with fail
   refine (zjw _ lo hi x.mA x.mn x.mc x.ms S0.out.m.1 S0.out.sz.ms HH.out h1 HFT.out.k N0.out x.s w.heap.size c0.out).mono ?_
   rw [HR.out]
   rintro e w1 ⟨rfl,hb1⟩
   have S1:=hide (S0.out.on hb1)
   clear hb1
   go_wp2
   go_ret
   exact ⟨by cases r <;> rfl,S1.out.bl⟩
  ·have hu2:¬ ((x.un:Nat):Int)=0:=by omega
   rw [decide_eq_false hu,Bool.false_and]
   clear hu
   go_enter Tryz.func92,Tryz.ntmps92
   go_wp2
   go_ret
   exact ⟨rfl,S0.out.bl⟩
 ·have HFU:Hid (zdy x.tb=(decide (x.ms.length=0)&&x.us.all (isU x.s))):=hide (by unfold zdy;rw [if_neg (show ¬ x.tb.f=5 from hf)];rfl)
  rw [HFU.out,HLM.out]
  by_cases hu:x.mn=0
  ·have hu2:((x.mn:Nat):Int)=0:=by omega
   rw [decide_eq_true hu,Bool.true_and]
   obtain ⟨r,hr⟩:∃ r,x.us.all (isU x.s)=r:=⟨_,rfl⟩
   have HR:=hide hr
   rw [hr]
   clear hr hu
   go_enter Tryz.func92,Tryz.ntmps92
   go_wp2_with fail
   refine (zjv _ lo hi x.uA x.un x.uc x.us S0.out.m.2.1 S0.out.sz.us HH.out h2 x.s w.heap.size c0.out).mono ?_
   rw [HR.out]
   rintro e w1 ⟨rfl,hb1⟩
   have S1:=hide (S0.out.on hb1)
   clear hb1
   go_wp2
   go_ret
   exact ⟨by cases r <;> rfl,S1.out.bl⟩
  ·have hu2:¬ ((x.mn:Nat):Int)=0:=by omega
   rw [decide_eq_false hu,Bool.false_and]
   clear hu
   go_enter Tryz.func92,Tryz.ntmps92
   go_wp2
   go_ret
   exact ⟨rfl,S0.out.bl⟩
theorem zjJ (w:World) (x:TbP) (hw:wTb x) :
  Calls Tryz.prog 91 #[.agg (tbC x)] w fun e w'=>e = .returned (.bool (ze8 x.s x.f))∧Below w.heap.size w w':=by
 have HB:=hide (Blk.new w 53 (tbC x))
 have c0:(w.alloc (.cells (tbC x) 53)).cell? ⟨w.heap.size,0,none⟩=some (.int .i64 x.s):=(HB.out.cell 0).trans (by unfold tbC;simpa using zoL x)
 have c1:(w.alloc (.cells (tbC x) 53)).cell? ⟨w.heap.size,1,none⟩=some (.int .i64 x.f):=(HB.out.cell 1).trans (by unfold tbC;simpa using zoK x)
 have W0:=hide ((Below.refl w.heap.size w).alloc (Nat.le_refl _) (.cells (tbC x) 53))
 clear hw HB
 go_enter Tryz.func91,Tryz.ntmps91
 go_wp2_with fail
 refine (zpR _ (x.s,x.f)).mono ?_
 rintro e w1 ⟨rfl,hb1⟩
 have W1:=hide (zaa W0.out hb1 (Nat.le_refl _))
 clear hb1
 go_wp2
 go_ret
 exact ⟨rfl,W1.out⟩
theorem znK (w:World) (lo hi:Nat) (x:TbP) (h:mTb w lo hi x) (hw:wTb x) (hh:hi≤w.heap.size) (hfit:FitT x) :
  Calls Tryz.prog 53 #[.agg (tbC x)] w fun e w'=>e = .returned (.bool (hasT x.tb))∧Below w.heap.size w w':=by
 have S0:=hide (TbS.start h hw hh)
 have c19:=S0.out.c19
 have c20:=S0.out.c20
 have h1:=hfit.m
 have h2:=hfit.u
 have HE:Hid (hasT x.tb=decide ((0:Int)<(x.mn:Int)+(x.un:Int))):=hide (by
  have e1:=h.1.len
  have e2:=h.2.1.len
  unfold hasT
  show decide (0<x.ms.length+x.us.length)=_
  rw [e1,e2]
  exact decide_eq_decide.2 (by omega))
 rw [HE.out]
 clear h hw hfit
 go_enter Tryz.func53,Tryz.ntmps53
 go_wp2
 go_ret
 exact ⟨rfl,S0.out.bl⟩
theorem zfr (w:World) (lo hi:Nat) (x:TbP) (b:Bool) (h:mTb w lo hi x) (hw:wTb x) (hh:hi≤w.heap.size) (hfit:FitT x) (hN:zaM w) :
  Calls Tryz.prog 52 #[.agg (tbC x),.bool b] w fun e w'=>e = .returned (.bool (za1 b x.tb))∧Below w.heap.size w w':=by
 have S0:=hide (TbS.start h hw hh)
 have N0:=hide (hN.below S0.out.bl)
 have HFT:=hide hfit
 have HOB:=hide (zcZ hw)
 have HH:=hide (show hi≤(w.alloc (.cells (tbC x) 53)).heap.size from Nat.le_trans hh S0.out.bl.size)
 have RG:=hide S0.out.rng
 have RX:Hid (za1 b x.tb=(ze8 x.s x.f&&(zdy x.tb&&(zaA x.ns x.nb&&(b==decide (0<x.ns)))))):=hide rfl
 rw [RX.out]
 obtain ⟨q1,h1⟩:∃ r,ze8 x.s x.f=r:=⟨_,rfl⟩
 obtain ⟨q2,h2⟩:∃ r,zdy x.tb=r:=⟨_,rfl⟩
 obtain ⟨q3,h3⟩:∃ r,zaA x.ns x.nb=r:=⟨_,rfl⟩
 have H1:=hide h1
 have H2:=hide h2
 have H3:=hide h3
 rw [h1,h2,h3]
 clear h hw hfit hN h1 h2 h3 RX
 go_enter Tryz.func52,Tryz.ntmps52
 go_wp2_with ((with_reducible refine zan ?_ (.tmp 2) rfl w.heap.size 0 rfl x RG.out HOB.out ?_);· rfl)
 refine (zjJ _ x S0.out.sz).mono ?_
 rw [H1.out]
 rintro e w1 ⟨rfl,hb1⟩
 have S1:=hide (S0.out.on hb1)
 have N1:=hide (N0.out.below hb1)
 have RG1:=hide S1.out.rng
 have HH1:=hide (Nat.le_trans HH.out hb1.size)
 clear hb1 S0 N0 RG HH
 cases q1
 ·go_wp2
  go_ret
  exact ⟨rfl,S1.out.bl⟩
 ·go_wp2_with ((with_reducible refine zan ?_ (.tmp 2) rfl w.heap.size 0 rfl x RG1.out HOB.out ?_);· rfl)
  refine (zmM w1 lo hi x S1.out.m S1.out.sz HH1.out HFT.out N1.out).mono ?_
  rw [H2.out]
  rintro e w2 ⟨rfl,hb2⟩
  have S2:=hide (S1.out.on hb2)
  have RG2:=hide S2.out.rng
  clear hb2 S1 N1 RG1 HH1
  cases q2
  ·go_wp2
   go_ret
   exact ⟨rfl,S2.out.bl⟩
  ·go_wp2_with (refine zam ?_ (zcR (.tmp 12) rfl w.heap.size 0 rfl RG2.out HOB.out) ?_;· rfl)
   refine (zc2 w2 x.ns x.nb HOB.out).mono ?_
   rw [H3.out]
   rintro e w3 ⟨rfl,hb3⟩
   have S3:=hide (S2.out.on hb3)
   have c2:=S3.out.c2
   clear hb3 S2 RG2
   cases q3
   ·go_wp2
    go_ret
    exact ⟨rfl,S3.out.bl⟩
   ·cases b
    ·go_wp2
     go_ret
     exact ⟨by first | rfl | (cases decide (0<x.ns) <;> rfl),S3.out.bl⟩
    ·go_wp2
     go_ret
     exact ⟨by first | rfl | (cases decide (0<x.ns) <;> rfl),S3.out.bl⟩
theorem zmN (w:World) (lo hi:Nat) (x:TbP) (h:mTb w lo hi x) (hw:wTb x) (hh:hi≤w.heap.size) (hfit:FitT x) (hN:zaM w) :
  Calls Tryz.prog 25 #[.agg (tbC x)] w fun e w'=>e = .returned (.bool (zc5 x.tb))∧Below w.heap.size w w':=by
 have S0:=hide (TbS.start h hw hh)
 have N0:=hide (hN.below S0.out.bl)
 have HFT:=hide hfit
 have HOB:=hide (zcZ hw)
 have HH:=hide (show hi≤(w.alloc (.cells (tbC x) 53)).heap.size from Nat.le_trans hh S0.out.bl.size)
 have RG:=hide S0.out.rng
 unfold zc5
 obtain ⟨q1,h1⟩:∃ r,za1 true x.tb=r:=⟨_,rfl⟩
 obtain ⟨q2,h2⟩:∃ r,hasT x.tb=r:=⟨_,rfl⟩
 have H1:=hide h1
 have H2:=hide h2
 rw [h1,h2]
 clear h hw hfit hN h1 h2
 go_enter Tryz.func25,Tryz.ntmps25
 go_wp2_with ((with_reducible refine zan ?_ (.tmp 1) rfl w.heap.size 0 rfl x RG.out HOB.out ?_);· rfl)
 refine (zfr _ lo hi x true S0.out.m S0.out.sz HH.out HFT.out N0.out).mono ?_
 rw [H1.out]
 rintro e w1 ⟨rfl,hb1⟩
 have S1:=hide (S0.out.on hb1)
 have RG1:=hide S1.out.rng
 have HH1:=hide (Nat.le_trans HH.out hb1.size)
 clear hb1 S0 N0 RG HH
 cases q1
 ·go_wp2
  go_ret
  exact ⟨rfl,S1.out.bl⟩
 ·go_wp2_with ((with_reducible refine zan ?_ (.tmp 1) rfl w.heap.size 0 rfl x RG1.out HOB.out ?_);· rfl)
  refine (znK w1 lo hi x S1.out.m S1.out.sz HH1.out HFT.out).mono ?_
  rw [H2.out]
  rintro e w2 ⟨rfl,hb2⟩
  have S2:=hide (S1.out.on hb2)
  clear hb2
  go_wp2
  go_ret
  exact ⟨by cases q2 <;> rfl,S2.out.bl⟩
theorem zmL (w:World) (lo hi:Nat) (x:TbP) (h:mTb w lo hi x) (hw:wTb x) (hh:hi≤w.heap.size) (hfit:FitT x) (hN:zaM w) :
  Calls Tryz.prog 26 #[.agg (tbC x)] w fun e w'=>e = .returned (.bool (za1 false x.tb))∧Below w.heap.size w w':=by
 have S0:=hide (TbS.start h hw hh)
 have N0:=hide (hN.below S0.out.bl)
 have HFT:=hide hfit
 have HOB:=hide (zcZ hw)
 have HH:=hide (show hi≤(w.alloc (.cells (tbC x) 53)).heap.size from Nat.le_trans hh S0.out.bl.size)
 have RG:=hide S0.out.rng
 obtain ⟨q1,h1⟩:∃ r,za1 false x.tb=r:=⟨_,rfl⟩
 have H1:=hide h1
 rw [h1]
 clear h hw hfit hN h1
 go_enter Tryz.func26,Tryz.ntmps26
 go_wp2_with ((with_reducible refine zan ?_ (.tmp 1) rfl w.heap.size 0 rfl x RG.out HOB.out ?_);· rfl)
 refine (zfr _ lo hi x false S0.out.m S0.out.sz HH.out HFT.out N0.out).mono ?_
 rw [H1.out]
 rintro e w1 ⟨rfl,hb1⟩
 have S1:=hide (S0.out.on hb1)
 clear hb1 S0 N0 RG HH
 go_wp2
 go_ret
 exact ⟨rfl,S1.out.bl⟩
end
end Go.Proofs.YtookpplebikfnaaGreatDoor
