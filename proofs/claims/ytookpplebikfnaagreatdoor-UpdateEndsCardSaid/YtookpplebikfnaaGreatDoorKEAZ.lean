/-
  Tables and updates as cells and as memory. No condition.
  Which updates are the same: Same of package update, in whatever memory. No condition beyond sizes that fit memory.
-/
import Derived.Test.YtookpplebikfnaaGreatDoorKEAQ
import Derived.Test.YtookpplebikfnaaGreatDoorKEAY
set_option linter.unusedVariables false
set_option linter.unusedSimpArgs false
namespace Go.Proofs.YtookpplebikfnaaGreatDoor
section
open Go.RowKit
structure TbP where
 s:Int
 f:Int
 ns:Int
 nb:List UInt8
 mA:Option Addr
 mn:Nat
 mc:Nat
 ms:List Mr
 uA:Option Addr
 un:Nat
 uc:Nat
 us:List Ur
def TbP.tb (x:TbP):Tb:=⟨x.s,x.f,x.ns,x.nb,x.ms,x.us⟩
def tbL (x:TbP):List Value:=.int .i64 x.s :: .int .i64 x.f::((.int .i64 x.ns::bvs x.nb)++[.slice x.mA x.mn x.mc,.slice x.uA x.un x.uc])
def tbC (x:TbP):Array Value:=(tbL x).toArray
def mTb (w:World) (lo hi:Nat) (x:TbP):Prop:=AtG mroL w lo hi x.mA x.mn x.ms∧AtG uroL w lo hi x.uA x.un x.us∧x.mn≤x.mc∧x.un≤x.uc
def wTb (x:TbP):Prop:=x.tb.W
theorem mkTb:MK mTb:=fun _ _ _ _ _ hk h=>⟨h.1.keep hk,h.2.1.keep hk,h.2.2⟩
theorem mmTb:MM mTb:=fun _ _ _ _ _ _ h1 h2 h=>⟨h.1.more h1 h2,h.2.1.more h1 h2,h.2.2⟩
theorem zmK {x:TbP} (h:x.nb.length=16):(tbL x).length=21:=by simp [tbL,bvs,h]
theorem zkn {x:TbP} (h:x.nb.length=16):(tbC x).size=21:=by simp [tbC,tbL,bvs,h]
theorem zdB {x:TbP} (h:wTb x):x.nb.length=16:=h.nb
theorem zkm {x:TbP} (h:wTb x):(tbL x).length=21:=zmK h.nb
theorem zmJ (x:TbP):∀ u∈tbL x,u.oneCell'=true:=fun u hu=>by
 simp only [tbL,List.mem_cons,List.mem_append,List.not_mem_nil,or_false] at hu
 rcases hu with rfl | rfl | (rfl | hu) | rfl | rfl
 all_goals first | rfl | exact zb6 _ u hu
theorem zvz (x:TbP):(tbC x).all (·.oneCell')=true:=by
 rw [Array.all_eq_true_iff_forall_mem]
 intro u hu
 exact zmJ x u (by unfold tbC at hu;simpa using hu)
theorem zoR (x:TbP):(tbL x)[0]?=some (.int .i64 x.s):=rfl
theorem zoQ (x:TbP):(tbL x)[1]?=some (.int .i64 x.f):=rfl
theorem tbL_2 (x:TbP):(tbL x)[2]?=some (.int .i64 x.ns):=rfl
theorem znW {x:TbP} (h:x.nb.length=16) (j:Nat):(tbL x)[19+j]?=[Value.slice x.mA x.mn x.mc,.slice x.uA x.un x.uc][j]?:=by
 have e:19+j=(17+j)+2:=by omega
 rw [e]
 simp only [tbL,List.getElem?_cons_succ]
 rw [List.getElem?_append_right (by simp [bvs,h])]
 simp [bvs,h]
theorem znY {x:TbP} (h:x.nb.length=16):(tbL x)[19]?=some (.slice x.mA x.mn x.mc):=znW h 0
theorem znX {x:TbP} (h:x.nb.length=16):(tbL x)[20]?=some (.slice x.uA x.un x.uc):=znW h 1
theorem zti {x:TbP} {j:Nat} {u:Value} (hu:(Value.int .i64 x.ns::bvs x.nb)[j]?=some u):(tbL x)[2+j]?=some u:=by
 have e:2+j=j+2:=by omega
 rw [e]
 simp only [tbL,List.getElem?_cons_succ]
 rw [List.getElem?_append_left (List.getElem?_eq_some_iff.1 hu).1]
 exact hu
section
variable {ops:Array Oper} {rest:List Oper} {o:Oper} {a:Act} {w:World} {Q:Exit→Act→World→Prop} {x:TbP} {g i:Nat} {t:TypeId}
theorem zvx (h:x.nb.length=16):(Tryz.prog.info? 53).map (·.size)=some (tbL x).length:=by rw [zmK h];kernel_rfl
theorem zmf (p:Operand) (ho:o.op = .load 53 p) (b i:Nat) (hx:a.eval p = .pointer (some ⟨b,i,none⟩)) {x:TbP} (h:w.rangeAt b i (tbL x)) (hl:x.nb.length=16) :
  (execOp a.eval o).run Tryz.prog w = .ok (.value (.agg (tbC x))) w:=by
 unfold execOp
 simp only [ho,hx,Instr.loadAt,Instr.sureAddr,Sem.run_bind,Sem.run_pure,Result.andThen_ok,run_loadVar_mid w b i 53 _ _ h Tryz.underlying53 rfl (zvx hl)]
 rfl
theorem zao (hw:Region.wanted o (yielded ops a.tmps)=true) (p:Operand) (ho:o.op = .load 53 p) (b i:Nat) (hx:a.eval p = .pointer (some ⟨b,i,none⟩)) (x:TbP) (h:w.rangeAt b i (tbL x)) (hl:x.nb.length=16)
  (hk:wpList Tryz.prog ops Q rest (a.put o.dst (.agg (tbC x))) w):wpList Tryz.prog ops Q (o::rest) a w :=
 zal hw (zmf p ho b i hx h hl) hk
theorem zcq (hgd:o.guard=none) (p y:Operand) (ho:o.op = .store 53 p y) (g:Nat) (hx:a.eval p = .pointer (some ⟨g,0,none⟩)) (x:TbP) (hy:a.eval y = .agg (tbC x)) (hl:x.nb.length=16) {t:TypeId} {old:Array Value} (h:Blk w g t old) (hold:old.size=21)
  (hk:∀ w',Blk w' g t (tbC x)→w.grownBy w' (some g)→wpList Tryz.prog ops Q rest (a.put o.dst undef) w'):wpList Tryz.prog ops Q (o::rest) a w :=
 wpList_store_row hgd 53 p y ho g (tbC x) hx hy t old h (by rw [zkn hl];kernel_rfl) (by rw [hold,zkn hl]) (zvz x) (hk _ (h.setRow _) (zaO _ _ _))
theorem zvy {x:TbP} (h:w.rangeAt g i (tbL x)):w.rangeAt g (i+2) (.int .i64 x.ns::bvs x.nb):=fun j u hu=>by
 have h1:=h (2+j) u (zti hu)
 rwa [← Nat.add_assoc] at h1
theorem zcW (p:Operand) (ho:o.op = .load 25 p) (g i:Nat) (hx:a.eval p = .pointer (some ⟨g,i+2,none⟩)) {x:TbP} (h:w.rangeAt g i (tbL x)) (hl:x.nb.length=16) :
  (execOp a.eval o).run Tryz.prog w = .ok (.value (.agg (zaq x.ns x.nb))) w:=by
 have hs:(Tryz.prog.info? 25).map (·.size)=some (Value.int .i64 x.ns::bvs x.nb).length:=by
  rw [show (Value.int .i64 x.ns::bvs x.nb).length=17 by simp [bvs,hl]];kernel_rfl
 unfold execOp
 simp only [ho,hx,Instr.loadAt,Instr.sureAddr,Sem.run_bind,Sem.run_pure,Result.andThen_ok,run_loadVar_mid w g (i+2) 25 _ _ (zvy h) Tryz.underlying25 rfl hs]
 rfl
end
structure TbS (w y:World) (lo hi:Nat) (x:TbP):Prop where
 b:Blk y w.heap.size 53 (tbC x)
 m:mTb y lo hi x
 bl:Below w.heap.size w y
 hh:hi≤w.heap.size
 sz:wTb x
section
variable {w y z:World} {lo hi:Nat} {x:TbP}
theorem TbS.start (h:mTb w lo hi x) (hw:wTb x) (hh:hi≤w.heap.size):TbS w (w.alloc (.cells (tbC x) 53)) lo hi x :=
 ⟨Blk.new w _ _,mkTb w _ lo hi x (fun p _ hp=>World.cell?_alloc_lt w _ p (by omega)) h,(Below.refl _ _).alloc (Nat.le_refl _) _,hh,hw⟩
theorem TbS.on (h:TbS w y lo hi x) (hb:Below y.heap.size y z):TbS w z lo hi x :=
 ⟨h.b.over hb,mkTb y z lo hi x (fun p _ hp=>hb.cell (p:=p) (by have:=h.bl.size;have:=h.hh;omega)) h.m,zaa h.bl hb (Nat.le_refl _),h.hh,h.sz⟩
theorem TbS.new (h:TbS w y lo hi x) (ob:Obj):TbS w (y.alloc ob) lo hi x:=h.on ((Below.refl _ _).alloc (Nat.le_refl _) ob)
theorem TbS.c (h:TbS w y lo hi x) {j:Nat} {u:Value} (hu:(tbL x)[j]?=some u):y.cell? ⟨w.heap.size,j,none⟩=some u:=by
 rw [h.b.cell];unfold tbC;simpa using hu
theorem TbS.c0 (h:TbS w y lo hi x):y.cell? ⟨w.heap.size,0,none⟩=some (.int .i64 x.s):=h.c (zoR x)
theorem TbS.c1 (h:TbS w y lo hi x):y.cell? ⟨w.heap.size,1,none⟩=some (.int .i64 x.f):=h.c (zoQ x)
theorem TbS.c2 (h:TbS w y lo hi x):y.cell? ⟨w.heap.size,2,none⟩=some (.int .i64 x.ns):=h.c (tbL_2 x)
theorem TbS.c19 (h:TbS w y lo hi x):y.cell? ⟨w.heap.size,19,none⟩=some (.slice x.mA x.mn x.mc):=h.c (znY h.sz.nb)
theorem TbS.c20 (h:TbS w y lo hi x):y.cell? ⟨w.heap.size,20,none⟩=some (.slice x.uA x.un x.uc):=h.c (znX h.sz.nb)
theorem TbS.rng (h:TbS w y lo hi x):y.rangeAt w.heap.size 0 (tbL x):=zah (l:=tbL x) h.b
theorem TbS.size (h:TbS w y lo hi x):w.heap.size<y.heap.size:=h.b.lt
end
structure UpP where
 at_:AtP
 rA:Option Addr
 rn:Nat
 rc:Nat
 re:List TbP
 nA:Option Addr
 nn:Nat
 nc:Nat
 ne:List TbP
def UpP.up (u:UpP):Up:=⟨u.at_.ats,u.re.map TbP.tb,u.ne.map TbP.tb⟩
def updL (u:UpP):List Value:=attL u.at_++[.slice u.rA u.rn u.rc,.slice u.nA u.nn u.nc]
def updC (u:UpP):Array Value:=(updL u).toArray
structure UpAt (w:World) (lo hi:Nat) (u:UpP):Prop where
 at_:zax w lo hi u.at_
 re:RowE tbL mTb wTb w lo hi u.rA u.rn u.re
 ne:RowE tbL mTb wTb w lo hi u.nA u.nn u.ne
 rc:u.rn≤u.rc
 nc:u.nn≤u.nc
section
variable {w w':World} {lo hi lo' hi':Nat} {u:UpP}
theorem UpAt.keep (h:UpAt w lo hi u) (hk:∀ q:Addr,lo≤q.block→q.block<hi→w'.cell? q=w.cell? q):UpAt w' lo hi u :=
 ⟨h.at_.keep hk,h.re.keep mkTb hk,h.ne.keep mkTb hk,h.rc,h.nc⟩
theorem UpAt.below (h:UpAt w lo hi u) (hb:Below hi w w'):UpAt w' lo hi u:=h.keep fun _ _ hp=>hb.cell hp
theorem UpAt.more (h:UpAt w lo hi u) (hl:lo'≤lo) (hh:hi≤hi'):UpAt w lo' hi' u :=
 ⟨h.at_.more hl hh,h.re.more mmTb hl hh,h.ne.more mmTb hl hh,h.rc,h.nc⟩
theorem UpAt.ob (h:UpAt w lo hi u):u.at_.ob.length=16:=h.at_.ob
end
theorem znS {u:UpP} (h:u.at_.ob.length=16):(updL u).length=26:=by unfold updL;rw [List.length_append,zbj h];rfl
theorem zgn {u:UpP} (h:u.at_.ob.length=16):(updC u).size=26:=by unfold updC;rw [List.size_toArray,znS h]
theorem ztd (x:UpP):∀ u∈updL x,u.oneCell'=true:=fun u hu=>by
 rcases List.mem_append.1 (show u∈attL x.at_++_ from hu) with hu | hu
 ·exact zlc x.at_ u hu
 ·simp only [List.mem_cons,List.not_mem_nil,or_false] at hu
  rcases hu with rfl | rfl <;> rfl
theorem zte (x:UpP):(updC x).all (·.oneCell')=true:=by
 rw [Array.all_eq_true_iff_forall_mem]
 intro u hu
 exact ztd x u (by unfold updC at hu;simpa using hu)
theorem zii {u:UpP} (h:u.at_.ob.length=16):(updL u)[24]?=some (.slice u.rA u.rn u.rc):=by
 unfold updL
 rw [List.getElem?_append_right (by rw [zbj h];exact Nat.le_refl _),zbj h]
 rfl
theorem zf2 {u:UpP} (h:u.at_.ob.length=16):(updL u)[25]?=some (.slice u.nA u.nn u.nc):=by
 unfold updL
 rw [List.getElem?_append_right (by rw [zbj h];decide),zbj h]
 rfl
theorem zmG {w:World} {g i:Nat} {u:UpP} (h:w.rangeAt g i (updL u)):w.rangeAt g i (attL u.at_):=fun j v hv=>h j v (by
 unfold updL
 rw [List.getElem?_append_left (List.getElem?_eq_some_iff.1 hv).1]
 exact hv)
section
variable {ops:Array Oper} {rest:List Oper} {o:Oper} {a:Act} {w:World} {Q:Exit→Act→World→Prop}
theorem znR {u:UpP} (h:u.at_.ob.length=16):(Tryz.prog.info? 33).map (·.size)=some (updL u).length:=by rw [znS h];kernel_rfl
theorem zkX (p:Operand) (ho:o.op = .load 33 p) (b i:Nat) (hx:a.eval p = .pointer (some ⟨b,i,none⟩)) {u:UpP} (h:w.rangeAt b i (updL u)) (hl:u.at_.ob.length=16) :
  (execOp a.eval o).run Tryz.prog w = .ok (.value (.agg (updC u))) w:=by
 unfold execOp
 simp only [ho,hx,Instr.loadAt,Instr.sureAddr,Sem.run_bind,Sem.run_pure,Result.andThen_ok,run_loadVar_mid w b i 33 _ _ h Tryz.underlying33 rfl (znR hl)]
 rfl
theorem zat (hw:Region.wanted o (yielded ops a.tmps)=true) (p:Operand) (ho:o.op = .load 33 p) (b i:Nat) (hx:a.eval p = .pointer (some ⟨b,i,none⟩)) (u:UpP) (h:w.rangeAt b i (updL u)) (hl:u.at_.ob.length=16)
  (hk:wpList Tryz.prog ops Q rest (a.put o.dst (.agg (updC u))) w):wpList Tryz.prog ops Q (o::rest) a w :=
 zal hw (zkX p ho b i hx h hl) hk
theorem zas (hgd:o.guard=none) (p y:Operand) (ho:o.op = .store 33 p y) (g:Nat) (hx:a.eval p = .pointer (some ⟨g,0,none⟩)) (u:UpP) (hy:a.eval y = .agg (updC u)) (hl:u.at_.ob.length=16) {t:TypeId} {old:Array Value} (h:Blk w g t old) (hold:old.size=26)
  (hk:∀ w',Blk w' g t (updC u)→w.grownBy w' (some g)→wpList Tryz.prog ops Q rest (a.put o.dst undef) w'):wpList Tryz.prog ops Q (o::rest) a w :=
 wpList_store_row hgd 33 p y ho g (updC u) hx hy t old h (by rw [zgn hl];kernel_rfl) (by rw [hold,zgn hl]) (zte u) (hk _ (h.setRow _) (zaO _ _ _))
end
structure UpS (w y:World) (lo hi:Nat) (u:UpP):Prop where
 b:Blk y w.heap.size 33 (updC u)
 at_:UpAt y lo hi u
 bl:Below w.heap.size w y
 hh:hi≤w.heap.size
section
variable {w y z:World} {lo hi:Nat} {u:UpP}
theorem UpS.start (h:UpAt w lo hi u) (hh:hi≤w.heap.size):UpS w (w.alloc (.cells (updC u) 33)) lo hi u :=
 ⟨Blk.new w _ _,h.keep fun p _ hp=>World.cell?_alloc_lt w _ p (by omega),(Below.refl _ _).alloc (Nat.le_refl _) _,hh⟩
theorem UpS.on (h:UpS w y lo hi u) (hb:Below y.heap.size y z):UpS w z lo hi u :=
 ⟨h.b.over hb,h.at_.keep fun p _ hp=>hb.cell (p:=p) (by have:=h.bl.size;have:=h.hh;omega),zaa h.bl hb (Nat.le_refl _),h.hh⟩
theorem UpS.new (h:UpS w y lo hi u) (ob:Obj):UpS w (y.alloc ob) lo hi u:=h.on ((Below.refl _ _).alloc (Nat.le_refl _) ob)
theorem UpS.grown (h:UpS w y lo hi u) {r:Option Nat} (hg:y.grownBy z r) (hr:∀ k,r=some k→w.heap.size<k):UpS w z lo hi u :=
 ⟨h.b.grown hg (fun e=>by have:=hr _ e.symm;omega),h.at_.keep (fun p _ hp=>World.cell?_of_block (hg.block p.block (by have:=h.bl.size;have:=h.hh;omega) (fun e=>by have:=hr _ e.symm;have:=h.hh;omega))),h.bl.grown hg h.bl.size (fun k hk=>by have:=hr k hk;omega),h.hh⟩
theorem UpS.c (h:UpS w y lo hi u) {j:Nat} {v:Value} (hu:(updL u)[j]?=some v):y.cell? ⟨w.heap.size,j,none⟩=some v:=by
 rw [h.b.cell];unfold updC;simpa using hu
theorem UpS.c24 (h:UpS w y lo hi u):y.cell? ⟨w.heap.size,24,none⟩=some (.slice u.rA u.rn u.rc):=h.c (zii h.at_.ob)
theorem UpS.c25 (h:UpS w y lo hi u):y.cell? ⟨w.heap.size,25,none⟩=some (.slice u.nA u.nn u.nc):=h.c (zf2 h.at_.ob)
theorem UpS.rng (h:UpS w y lo hi u):y.rangeAt w.heap.size 0 (updL u):=zah (l:=updL u) h.b
theorem UpS.ratt (h:UpS w y lo hi u):y.rangeAt w.heap.size 0 (attL u.at_):=zmG h.rng
theorem UpS.here (h:UpS w y lo hi u):hi≤y.heap.size:=Nat.le_trans h.hh h.bl.size
end
end
section
set_option maxRecDepth 20000
set_option maxHeartbeats 2000000
open Go.RowKit
instance decMr:DecidableEq Mr:=fun a b=>if h:zgs a b=true then isTrue ((zej a b).1 h) else isFalse (fun e=>h ((zej a b).2 e))
instance decUr:DecidableEq Ur:=fun a b=>if h:eqU a b=true then isTrue ((zk1 a b).1 h) else isFalse (fun e=>h ((zk1 a b).2 e))
theorem zcO {o:Oper} {a:Act} {w:World} (x:Operand) (ho:o.op = .load 86 x) (g n:Nat) (hx:a.eval x = .pointer (some ⟨g,n,none⟩)) {m:Mr} (h:w.rangeAt g n (mroL m)) (hm:m.W) :
  (execOp a.eval o).run Tryz.prog w = .ok (.value (.agg (mroC m))) w:=by
 unfold execOp
 simp only [ho,hx,Instr.loadAt,Instr.sureAddr,Sem.run_bind,Sem.run_pure,Result.andThen_ok,run_loadVar_mid w g n 86 _ _ h Tryz.underlying86 rfl (zgE hm)]
 rfl
theorem zgJ {o:Oper} {a:Act} {w:World} {b r:Bool} (h:b=r) (he:(execOp a.eval o).run Tryz.prog w = .ok (.value (.bool b)) w):(execOp a.eval o).run Tryz.prog w = .ok (.value (.bool r)) w:=by rw [he,h]
set_option maxHeartbeats 1000000 in
theorem zuu (w:World) (lo hi lo' hi':Nat) (A B:Option Addr) (n m c d:Nat) (xs ys:List Mr) (h:AtG mroL w lo hi A n xs) (h':AtG mroL w lo' hi' B m ys) (hsx:∀ x∈xs,x.W) (hsy:∀ x∈ys,x.W) (hh:hi≤w.heap.size) (hh':hi'≤w.heap.size) (hn:n≤1000000000000) :
  Calls Tryz.prog 70 #[.slice A n c,.slice B m d] w fun e w'=>e = .returned (.bool (decide (xs=ys)))∧Below w.heap.size w w':=by
 have H:=hide h
 have H':=hide h'
 have HLX:Hid (xs.length=n):=hide h.len
 have HLY:Hid (ys.length=m):=hide h'.len
 have HSX:=hide hsx
 have HSY:=hide hsy
 clear h h' hsx hsy
 by_cases hnm:n=m
 ·subst hnm
  have hnn:((n:Int) != (n:Int))=false:=by simp
  go_enter Tryz.func70,Tryz.ntmps70
  go_wp2_with fail
  go_loopw [13] (fun i wr=>∃ k:Nat,k≤n∧i = .int .i64 k∧xs.take k=ys.take k∧Below w.heap.size w wr) (fun i _=>n-(intOf i).toNat)
  case atStart=>exact ⟨0,Nat.zero_le _,rfl,rfl,Below.refl _ _⟩
  case round =>
   obtain ⟨k,hk,rfl,heq,hbel⟩:=hrel
   have HEQ:=hide heq
   have WB:=hide hbel
   clear heq hbel
   by_cases hlt:k<n
   ·have hkl:((k:Nat):Int)<(n:Int):=by omega
    have XA:=hide (H.out.below (WB.out.mono hh))
    have YA:=hide (H'.out.below (WB.out.mono hh'))
    obtain ⟨b,o,x,rfl,_,_,hx,hat⟩:=XA.out.at_ (sz:=62) (fun y hy=>zeE (HSX.out y hy)) hlt
    obtain ⟨b',o',y,rfl,_,_,hy,hat'⟩:=YA.out.at_ (sz:=62) (fun y hy=>zeE (HSY.out y hy)) hlt
    have HX:=hide hx
    have HY:=hide hy
    have X16:=hide (HSX.out x (List.mem_of_getElem? hx))
    have Y16:=hide (HSY.out y (List.mem_of_getElem? hy))
    have ST:Hid (EqR w wr b (o+k*62) b' (o'+k*62) (mroL x) (mroL y)):=hide ⟨hat,hat',WB.out⟩
    clear hx hy hat hat' XA YA
    by_cases hxy:x=y
    ·have HNX:=hide (zdt HEQ.out HX.out HY.out hxy)
     have NXY:Hid ((!zgs x y)=false):=hide (by rw [(zej x y).2 hxy];rfl)
     clear hxy
     go_wp2_with fail
     refine wp_region_held_drew (S:=fun z=>EqR w z b (o+k*62) b' (o'+k*62) (mroL x) (mroL y)) (by kernel_rfl) ST.out.drew (fun hHeld=>?_)
     refine rgT 0 ?_
     refine rgT 1 ?_
     refine rgT 2 ?_
     refine rgV 3 (.agg (mroC x)) ?_ ?_
     ·(intro w' hSw;exact zcO (.tmp 18) rfl b (o+k*62) rfl hSw.x X16.out)
     refine rgT 4 ?_
     refine rgT 5 ?_
     refine rgT 6 ?_
     refine rgV 7 (.agg (mroC y)) ?_ ?_
     ·(intro w' hSw;exact zcO (.tmp 22) rfl b' (o'+k*62) rfl hSw.y Y16.out)
     refine rgV 8 (.bool false) ?_ ?_
     ·(intro w' hSw;exact zgJ NXY.out (zhy (.tmp 19) (.tmp 23) rfl rfl rfl X16.out Y16.out))
     refine wpAnyH_done (by kernel_rfl) ?_ _
     go_wp2_with fail
     go_roundw
     case rel=>exact ⟨k+1,by omega,by go_num,HNX.out,zam WB.out⟩
     case measure=>simp [intOf];omega
    ·have HF:=hide (decide_eq_false (zcs HX.out HY.out hxy))
     have NXY:Hid ((!zgs x y)=true):=hide (by cases hq:zgs x y;rfl;exact absurd ((zej x y).1 hq) hxy)
     clear hxy
     go_wp2_with fail
     refine wp_region_held_drew (S:=fun z=>EqR w z b (o+k*62) b' (o'+k*62) (mroL x) (mroL y)) (by kernel_rfl) ST.out.drew (fun hHeld=>?_)
     refine rgT 0 ?_
     refine rgT 1 ?_
     refine rgT 2 ?_
     refine rgV 3 (.agg (mroC x)) ?_ ?_
     ·(intro w' hSw;exact zcO (.tmp 18) rfl b (o+k*62) rfl hSw.x X16.out)
     refine rgT 4 ?_
     refine rgT 5 ?_
     refine rgT 6 ?_
     refine rgV 7 (.agg (mroC y)) ?_ ?_
     ·(intro w' hSw;exact zcO (.tmp 22) rfl b' (o'+k*62) rfl hSw.y Y16.out)
     refine rgV 8 (.bool true) ?_ ?_
     ·(intro w' hSw;exact zgJ NXY.out (zhy (.tmp 19) (.tmp 23) rfl rfl rfl X16.out Y16.out))
     refine wpAnyH_done (by kernel_rfl) ?_ _
     go_wp2_with fail
     go_ret
     exact ⟨by rw [HF.out];rfl,zam WB.out⟩
   ·obtain rfl:k=n:=by omega
    have hkl:¬ ((k:Nat):Int)<(k:Int):=by omega
    have HF:Hid (decide (xs=ys)=true):=hide (decide_eq_true (by
     have:=HEQ.out
     rw [List.take_of_length_le (by rw [HLX.out];exact Nat.le_refl _),List.take_of_length_le (by rw [HLY.out];exact Nat.le_refl _)] at this
     exact this))
    go_wp2_with fail
    go_ret
    exact ⟨by rw [HF.out];rfl,WB.out⟩
 ·have hnn:((n:Int) != (m:Int))=true:=by
   rw [bne_iff_ne]
   omega
  have HF:=hide (decide_eq_false (zcV HLX.out HLY.out hnm))
  clear hnm
  go_enter Tryz.func70,Tryz.ntmps70
  go_wp2_with fail
  go_ret
  exact ⟨by rw [HF.out];rfl,Below.refl _ _⟩
set_option maxHeartbeats 1000000 in
theorem zut (w:World) (lo hi lo' hi':Nat) (A B:Option Addr) (n m c d:Nat) (xs ys:List Ur) (h:AtG uroL w lo hi A n xs) (h':AtG uroL w lo' hi' B m ys) (hsx:∀ x∈xs,x.W) (hsy:∀ x∈ys,x.W) (hh:hi≤w.heap.size) (hh':hi'≤w.heap.size) (hn:n≤1000000000000) :
  Calls Tryz.prog 71 #[.slice A n c,.slice B m d] w fun e w'=>e = .returned (.bool (decide (xs=ys)))∧Below w.heap.size w w':=by
 have H:=hide h
 have H':=hide h'
 have HLX:Hid (xs.length=n):=hide h.len
 have HLY:Hid (ys.length=m):=hide h'.len
 have HSX:=hide hsx
 have HSY:=hide hsy
 clear h h' hsx hsy
 by_cases hnm:n=m
 ·subst hnm
  have hnn:((n:Int) != (n:Int))=false:=by simp
  go_enter Tryz.func71,Tryz.ntmps71
  go_wp2_with fail
  go_loopw [13] (fun i wr=>∃ k:Nat,k≤n∧i = .int .i64 k∧xs.take k=ys.take k∧Below w.heap.size w wr) (fun i _=>n-(intOf i).toNat)
  case atStart=>exact ⟨0,Nat.zero_le _,rfl,rfl,Below.refl _ _⟩
  case round =>
   obtain ⟨k,hk,rfl,heq,hbel⟩:=hrel
   have HEQ:=hide heq
   have WB:=hide hbel
   clear heq hbel
   by_cases hlt:k<n
   ·have hkl:((k:Nat):Int)<(n:Int):=by omega
    have XA:=hide (H.out.below (WB.out.mono hh))
    have YA:=hide (H'.out.below (WB.out.mono hh'))
    obtain ⟨b,o,x,rfl,_,_,hx,hat⟩:=XA.out.at_ (sz:=27) (fun y hy=>zev (HSX.out y hy)) hlt
    obtain ⟨b',o',y,rfl,_,_,hy,hat'⟩:=YA.out.at_ (sz:=27) (fun y hy=>zev (HSY.out y hy)) hlt
    have HX:=hide hx
    have HY:=hide hy
    have X16:=hide (HSX.out x (List.mem_of_getElem? hx))
    have Y16:=hide (HSY.out y (List.mem_of_getElem? hy))
    have ST:Hid (EqR w wr b (o+k*27) b' (o'+k*27) (uroL x) (uroL y)):=hide ⟨hat,hat',WB.out⟩
    clear hx hy hat hat' XA YA
    by_cases hxy:x=y
    ·have HNX:=hide (zdt HEQ.out HX.out HY.out hxy)
     have NXY:Hid ((!eqU x y)=false):=hide (by rw [(zk1 x y).2 hxy];rfl)
     clear hxy
     go_wp2_with fail
     refine wp_region_held_drew (S:=fun z=>EqR w z b (o+k*27) b' (o'+k*27) (uroL x) (uroL y)) (by kernel_rfl) ST.out.drew (fun hHeld=>?_)
     refine rgT 0 ?_
     refine rgT 1 ?_
     refine rgT 2 ?_
     refine rgV 3 (.agg (uroC x)) ?_ ?_
     ·(intro w' hSw;exact zch (.tmp 18) rfl b (o+k*27) rfl hSw.x X16.out)
     refine rgT 4 ?_
     refine rgT 5 ?_
     refine rgT 6 ?_
     refine rgV 7 (.agg (uroC y)) ?_ ?_
     ·(intro w' hSw;exact zch (.tmp 22) rfl b' (o'+k*27) rfl hSw.y Y16.out)
     refine rgV 8 (.bool false) ?_ ?_
     ·(intro w' hSw;exact zgJ NXY.out (zhx (.tmp 19) (.tmp 23) rfl rfl rfl X16.out Y16.out))
     refine wpAnyH_done (by kernel_rfl) ?_ _
     go_wp2_with fail
     go_roundw
     case rel=>exact ⟨k+1,by omega,by go_num,HNX.out,zam WB.out⟩
     case measure=>simp [intOf];omega
    ·have HF:=hide (decide_eq_false (zcs HX.out HY.out hxy))
     have NXY:Hid ((!eqU x y)=true):=hide (by cases hq:eqU x y;rfl;exact absurd ((zk1 x y).1 hq) hxy)
     clear hxy
     go_wp2_with fail
     refine wp_region_held_drew (S:=fun z=>EqR w z b (o+k*27) b' (o'+k*27) (uroL x) (uroL y)) (by kernel_rfl) ST.out.drew (fun hHeld=>?_)
     refine rgT 0 ?_
     refine rgT 1 ?_
     refine rgT 2 ?_
     refine rgV 3 (.agg (uroC x)) ?_ ?_
     ·(intro w' hSw;exact zch (.tmp 18) rfl b (o+k*27) rfl hSw.x X16.out)
     refine rgT 4 ?_
     refine rgT 5 ?_
     refine rgT 6 ?_
     refine rgV 7 (.agg (uroC y)) ?_ ?_
     ·(intro w' hSw;exact zch (.tmp 22) rfl b' (o'+k*27) rfl hSw.y Y16.out)
     refine rgV 8 (.bool true) ?_ ?_
     ·(intro w' hSw;exact zgJ NXY.out (zhx (.tmp 19) (.tmp 23) rfl rfl rfl X16.out Y16.out))
     refine wpAnyH_done (by kernel_rfl) ?_ _
     go_wp2_with fail
     go_ret
     exact ⟨by rw [HF.out];rfl,zam WB.out⟩
   ·obtain rfl:k=n:=by omega
    have hkl:¬ ((k:Nat):Int)<(k:Int):=by omega
    have HF:Hid (decide (xs=ys)=true):=hide (decide_eq_true (by
     have:=HEQ.out
     rw [List.take_of_length_le (by rw [HLX.out];exact Nat.le_refl _),List.take_of_length_le (by rw [HLY.out];exact Nat.le_refl _)] at this
     exact this))
    go_wp2_with fail
    go_ret
    exact ⟨by rw [HF.out];rfl,WB.out⟩
 ·have hnn:((n:Int) != (m:Int))=true:=by
   rw [bne_iff_ne]
   omega
  have HF:=hide (decide_eq_false (zcV HLX.out HLY.out hnm))
  clear hnm
  go_enter Tryz.func71,Tryz.ntmps71
  go_wp2_with fail
  go_ret
  exact ⟨by rw [HF.out];rfl,Below.refl _ _⟩
def ze5 (a b:Tb):Bool:=decide (a.s=b.s)&&(decide (a.f=b.f)&&(decide (a.ns=b.ns∧a.nb=b.nb)&&(decide (a.ms=b.ms)&&decide (a.us=b.us))))
theorem zey (a b:Tb):ze5 a b=true↔a=b:=by
 unfold ze5
 simp only [Bool.and_eq_true,decide_eq_true_eq]
 constructor
 ·rintro ⟨h1,h2,⟨h3,h4⟩,h5,h6⟩
  cases a;cases b
  simp_all
 ·rintro rfl
  simp
theorem zo6 {a b:Tb} (h:a≠b):ze5 a b=false:=by
 cases hq:ze5 a b
 ·rfl
 ·exact absurd ((zey a b).1 hq) h
instance decTb:DecidableEq Tb:=fun a b=>if h:ze5 a b=true then isTrue ((zey a b).1 h) else isFalse (fun e=>h ((zey a b).2 e))
structure Tb2 (w z:World) (lo hi lo' hi':Nat) (x y:TbP):Prop where
 bx:Blk z w.heap.size 53 (tbC x)
 by_:Blk z (w.heap.size+1) 53 (tbC y)
 mx:mTb z lo hi x
 my:mTb z lo' hi' y
 bl:Below w.heap.size w z
 hx:hi≤w.heap.size
 hy:hi'≤w.heap.size
 wx:wTb x
 wy:wTb y
section
variable {w z q:World} {lo hi lo' hi':Nat} {x y:TbP}
theorem Tb2.start (h:mTb w lo hi x) (h':mTb w lo' hi' y) (hw:wTb x) (hw':wTb y) (hh:hi≤w.heap.size) (hh':hi'≤w.heap.size) :
  Tb2 w ((w.alloc (.cells (tbC x) 53)).alloc (.cells (tbC y) 53)) lo hi lo' hi' x y:=by
 have b1:Below w.heap.size w (w.alloc (.cells (tbC x) 53)):=(Below.refl _ _).alloc (Nat.le_refl _) _
 have b2:Below w.heap.size w ((w.alloc (.cells (tbC x) 53)).alloc (.cells (tbC y) 53)):=b1.alloc b1.size _
 have e:(w.alloc (.cells (tbC x) 53)).heap.size=w.heap.size+1:=by simp
 have hn:=Blk.new (w.alloc (.cells (tbC x) 53)) 53 (tbC y)
 rw [e] at hn
 exact ⟨(Blk.new w _ _).alloc _,hn,mkTb _ _ _ _ _ (fun p _ hp=>b2.cell (by omega)) h,mkTb _ _ _ _ _ (fun p _ hp=>b2.cell (by omega)) h',b2,hh,hh',hw,hw'⟩
theorem Tb2.on (h:Tb2 w z lo hi lo' hi' x y) (hb:Below z.heap.size z q):Tb2 w q lo hi lo' hi' x y :=
 ⟨h.bx.over hb,h.by_.over hb,mkTb _ _ _ _ _ (fun p _ hp=>hb.cell (by have:=h.hx;have:=h.bl.size;omega)) h.mx,mkTb _ _ _ _ _ (fun p _ hp=>hb.cell (by have:=h.hy;have:=h.bl.size;omega)) h.my,zaa h.bl hb (Nat.le_refl _),h.hx,h.hy,h.wx,h.wy⟩
theorem Tb2.cx (h:Tb2 w z lo hi lo' hi' x y) {j:Nat} {u:Value} (hu:(tbL x)[j]?=some u):z.cell? ⟨w.heap.size,j,none⟩=some u:=by
 rw [h.bx.cell];unfold tbC;simpa using hu
theorem Tb2.cy (h:Tb2 w z lo hi lo' hi' x y) {j:Nat} {u:Value} (hu:(tbL y)[j]?=some u):z.cell? ⟨w.heap.size+1,j,none⟩=some u:=by
 rw [h.by_.cell];unfold tbC;simpa using hu
theorem Tb2.rx (h:Tb2 w z lo hi lo' hi' x y):z.rangeAt w.heap.size 0 (tbL x):=zah (l:=tbL x) h.bx
theorem Tb2.ry (h:Tb2 w z lo hi lo' hi' x y):z.rangeAt (w.heap.size+1) 0 (tbL y):=zah (l:=tbL y) h.by_
end
theorem zmQ (a b:Tb):ze5 a b=decide (a=b):=by
 by_cases h:a=b
 ·rw [decide_eq_true h];exact (zey a b).2 h
 ·rw [decide_eq_false h];exact zo6 h
abbrev zTab:Array Value:=#[.int .i64 0,.int .i64 0,.int .i64 0,.int .u8 0,.int .u8 0,.int .u8 0,.int .u8 0,.int .u8 0,.int .u8 0,.int .u8 0,.int .u8 0,.int .u8 0,.int .u8 0,.int .u8 0,.int .u8 0,.int .u8 0,.int .u8 0,.int .u8 0,.int .u8 0,.slice none 0 0,.slice none 0 0]
theorem zgj {ops:Array Oper} {rest:List Oper} {o:Oper} {a:Act} {w:World} {Q:Exit→Act→World→Prop} (hw:Region.wanted o (yielded ops a.tmps)=true) (x y:Operand) (ho:o.op = .binOp .eql 25 x y 25) {s t:Int} {xs ys:List UInt8}
  (hx:a.eval x = .agg (zaq s xs)) (hy:a.eval y = .agg (zaq t ys)) (lx:xs.length=16) (ly:ys.length=16) (b:Bool) (hb:decide (s=t∧xs=ys)=b) (hk:wpList Tryz.prog ops Q rest (a.put o.dst (.bool b)) w):wpList Tryz.prog ops Q (o::rest) a w:=by
 have hg:Tryz.prog.eqGuardType Tryz.prog.depth 25=false:=by kernel_rfl
 have hg':=run_eqGuard_agg (P:=Tryz.prog) w .eql 25 x y (zaq s xs) (zaq t ys) hg
 refine zal hw ?_ hk
 unfold execOp
 simp only [ho,hx,hy,Sem.run_bind,hg',Result.andThen_ok,zoy s t xs ys lx ly,hb,Sem.run_pure]
theorem zo5 (w:World) (lo hi lo' hi':Nat) (x y:TbP) (h:mTb w lo hi x) (h':mTb w lo' hi' y) (hw:wTb x) (hw':wTb y) (hh:hi≤w.heap.size) (hh':hi'≤w.heap.size) (hn:x.mn≤1000000000∧x.un≤1000000000) :
  Calls Tryz.prog 35 #[.agg (tbC x),.agg (tbC y)] w fun e w'=>e = .returned (.bool (ze5 x.tb y.tb))∧Below w.heap.size w w':=by
 have S0:=hide (Tb2.start h h' hw hw' hh hh')
 have x0:=S0.out.cx (zoR x)
 have x1:=S0.out.cx (zoQ x)
 have y0:=S0.out.cy (zoR y)
 have y1:=S0.out.cy (zoQ y)
 have x19:=S0.out.cx (znY hw.nb)
 have y19:=S0.out.cy (znY hw'.nb)
 have HOX:=hide (zdB hw)
 have HOY:=hide (zdB hw')
 have RX:=hide S0.out.rx
 have RY:=hide S0.out.ry
 have HN:=hide hn
 have HZ:=hide S0.out.bl.size
 have E:Hid (ze5 x.tb y.tb=(decide (x.s=y.s)&&(decide (x.f=y.f)&&(decide (x.ns=y.ns∧x.nb=y.nb)&&(decide (x.ms=y.ms)&&decide (x.us=y.us)))))):=hide rfl
 rw [E.out]
 clear h h' hw hw' hn E
 by_cases h1:x.s=y.s
 ·rw [decide_eq_true h1,Bool.true_and]
  by_cases h2:x.f=y.f
  ·rw [decide_eq_true h2,Bool.true_and]
   cases h3:decide (x.ns=y.ns∧x.nb=y.nb)
   ·have H3:=hide h3
    clear h3
    go_enter Tryz.func35,Tryz.ntmps35
    go_wp2_with (first
     | ((with_reducible refine zal ?_ (zcW (.tmp 18) rfl w.heap.size 0 rfl RX.out HOX.out) ?_);· rfl)
     | ((with_reducible refine zal ?_ (zcW (.tmp 20) rfl (w.heap.size+1) 0 rfl RY.out HOY.out) ?_);· rfl)
     | ((with_reducible refine zgj ?_ (.tmp 19) (.tmp 21) rfl rfl rfl HOX.out HOY.out _ H3.out ?_);· rfl))
    go_ret
    exact ⟨rfl,S0.out.bl⟩
   ·have H3:=hide h3
    clear h3
    rw [Bool.true_and]
    obtain ⟨r,hr⟩:∃ r,decide (x.ms=y.ms)=r:=⟨_,rfl⟩
    have HR:=hide hr
    rw [hr]
    clear hr
    obtain ⟨q,hq⟩:∃ q,decide (x.us=y.us)=q:=⟨_,rfl⟩
    have HQ:=hide hq
    rw [hq]
    clear hq
    go_enter Tryz.func35,Tryz.ntmps35
    go_wp2_with (first
     | ((with_reducible refine zal ?_ (zcW (.tmp 18) rfl w.heap.size 0 rfl RX.out HOX.out) ?_);· rfl)
     | ((with_reducible refine zal ?_ (zcW (.tmp 20) rfl (w.heap.size+1) 0 rfl RY.out HOY.out) ?_);· rfl)
     | ((with_reducible refine zgj ?_ (.tmp 19) (.tmp 21) rfl rfl rfl HOX.out HOY.out _ H3.out ?_);· rfl))
    refine (zuu _ lo hi lo' hi' x.mA y.mA x.mn y.mn x.mc y.mc x.ms y.ms S0.out.mx.1 S0.out.my.1 S0.out.wx.ms S0.out.wy.ms (Nat.le_trans hh HZ.out) (Nat.le_trans hh' HZ.out) (by have:=HN.out.1;omega)).mono ?_
    rw [HR.out]
    rintro e w1 ⟨rfl,hb1⟩
    have S1:=hide (S0.out.on hb1)
    have HZ1:=hide S1.out.bl.size
    have k20:=S1.out.cx (znX HOX.out)
    have l20:=S1.out.cy (znX HOY.out)
    clear hb1 S0 RX RY HZ
    cases r
    ·go_wp2
     go_ret
     exact ⟨rfl,S1.out.bl⟩
    ·go_wp2_with fail
     refine (zut w1 lo hi lo' hi' x.uA y.uA x.un y.un x.uc y.uc x.us y.us S1.out.mx.2.1 S1.out.my.2.1 S1.out.wx.us S1.out.wy.us (Nat.le_trans hh HZ1.out) (Nat.le_trans hh' HZ1.out) (by have:=HN.out.2;omega)).mono ?_
     rw [HQ.out]
     rintro e w2 ⟨rfl,hb2⟩
     have S2:=hide (S1.out.on hb2)
     clear hb2
     go_wp2
     go_ret
     exact ⟨by cases q <;> rfl,S2.out.bl⟩
  ·rw [decide_eq_false h2,Bool.false_and]
   go_enter Tryz.func35,Tryz.ntmps35
   go_wp2
   go_ret
   exact ⟨rfl,S0.out.bl⟩
 ·rw [decide_eq_false h1,Bool.false_and]
  go_enter Tryz.func35,Tryz.ntmps35
  go_wp2
  go_ret
  exact ⟨rfl,S0.out.bl⟩
theorem zmk (w:World) (lo hi lo' hi':Nat) (A B:Option Addr) (n mm c d:Nat) (xs ys:List TbP) (h:RowE tbL mTb wTb w lo hi A n xs) (h':RowE tbL mTb wTb w lo' hi' B mm ys) (hh:hi≤w.heap.size) (hh':hi'≤w.heap.size) (hn:n≤1000000000000) (hns:∀ x∈xs,x.mn≤1000000000∧x.un≤1000000000) :
  Calls Tryz.prog 34 #[.slice A n c,.slice B mm d,.func (.func 35) #[] #[]] w fun e w'=>e = .returned (.bool (decide (xs.map TbP.tb=ys.map TbP.tb)))∧Below w.heap.size w w':=by
 have H:=hide h
 have H':=hide h'
 have HLX:Hid ((xs.map TbP.tb).length=n):=hide (by rw [List.length_map];exact h.len)
 have HLY:Hid ((ys.map TbP.tb).length=mm):=hide (by rw [List.length_map];exact h'.len)
 have HNS:=hide hns
 clear hns
 clear h h'
 by_cases hnm:n=mm
 ·subst hnm
  have hnn:((n:Int) != (n:Int))=false:=by simp
  go_enter Tryz.func34,Tryz.ntmps34
  go_wp2_with fail
  go_loopw [17] (fun i wr=>∃ k:Nat,k≤n∧i = .int .i64 k∧(xs.map TbP.tb).take k=(ys.map TbP.tb).take k∧Below w.heap.size w wr) (fun i _=>n-(intOf i).toNat)
  case atStart=>exact ⟨0,Nat.zero_le _,rfl,rfl,Below.refl _ _⟩
  case round =>
   obtain ⟨k,hk,rfl,heq,hbel⟩:=hrel
   have HEQ:=hide heq
   have WB:=hide hbel
   clear heq hbel
   by_cases hlt:k<n
   ·have hkl:((k:Nat):Int)<(n:Int):=by omega
    have XA:=hide (H.out.below mkTb (WB.out.mono hh))
    have YA:=hide (H'.out.below mkTb (WB.out.mono hh'))
    obtain ⟨b,o,x,rfl,hb1,hb2,hx,hat⟩:=XA.out.row.at_ (sz:=21) (fun y hy=>zkm (XA.out.sz y hy)) hlt
    obtain ⟨b',o',y,rfl,hb1',hb2',hy,hat'⟩:=YA.out.row.at_ (sz:=21) (fun y hy=>zkm (YA.out.sz y hy)) hlt
    have HX:=hide hx
    have HY:=hide hy
    have HAT:=hide hat
    have HAT':=hide hat'
    have MX:=hide (XA.out.mem x (List.mem_of_getElem? hx))
    have MY:=hide (YA.out.mem y (List.mem_of_getElem? hy))
    have SX:Hid (wTb x):=hide (XA.out.sz x (List.mem_of_getElem? hx))
    have SY:Hid (wTb y):=hide (YA.out.sz y (List.mem_of_getElem? hy))
    have HXP:Hid ((xs.map TbP.tb)[k]?=some (TbP.tb x)):=hide (by rw [List.getElem?_map,hx];rfl)
    have HYP:Hid ((ys.map TbP.tb)[k]?=some (TbP.tb y)):=hide (by rw [List.getElem?_map,hy];rfl)
    have hwz:=WB.out.size
    have NEW8:=hide (Blk.new wr 53 zTab)
    have OX:=hide (zdB SX.out)
    have OY:=hide (zdB SY.out)
    clear hx hy hat hat'
    go_wp2_with (first
     | (with_reducible refine zao rfl (.tmp 20) rfl b (o+k*21) rfl x HAT.out OX.out ?_)
     | (refine zcq rfl (.tmp 8) (.tmp 21) rfl wr.heap.size rfl x rfl OX.out NEW8.out rfl ?_;intro w3 hb3 hg3;have B3:=hide hb3;have W3:Hid (Below wr.heap.size wr w3):=hide (((Below.refl _ _).alloc (Nat.le_refl _) _).grown hg3 (by simp) (by simp));clear hb3 hg3;refine Hid.out ?_))
    refine hide ?_
    have hz3:=W3.out.size
    have HAT3:Hid (w3.rangeAt b' (o'+k*21) (tbL y)):=hide (fun j u hu=>by rw [W3.out.cell (by show b'<wr.heap.size;omega)];exact HAT'.out j u hu)
    have NEW9:=hide (Blk.new w3 53 zTab)
    clear NEW8
    go_wp2_with (first
     | (with_reducible refine zao rfl (.tmp 24) rfl b' (o'+k*21) rfl y HAT3.out OY.out ?_)
     | (refine zcq rfl (.tmp 9) (.tmp 25) rfl w3.heap.size rfl y rfl OY.out NEW9.out rfl ?_;intro w4 hb4 hg4;have B4:=hide hb4;have W4:Hid (Below w3.heap.size w3 w4):=hide (((Below.refl _ _).alloc (Nat.le_refl _) _).grown hg4 (by simp) (by simp));clear hb4 hg4;refine Hid.out ?_))
    refine hide ?_
    have hz4:=W4.out.size
    have R8:=hide (zah (l:=tbL x) (B3.out.over W4.out))
    have R9:=hide (zah (l:=tbL y) B4.out)
    have W14:Hid (Below wr.heap.size wr w4):=hide (zaa W3.out W4.out (Nat.le_refl _))
    have WB4:=hide (zaa WB.out W14.out (Nat.le_refl _))
    have MX4:=hide (mkTb _ _ _ _ _ (fun p _ hp=>W14.out.cell (by omega)) MX.out)
    have MY4:=hide (mkTb _ _ _ _ _ (fun p _ hp=>W14.out.cell (by omega)) MY.out)
    clear NEW9 B3 B4 W3 W4 XA YA MX MY
    go_wp2_with (first
     | (with_reducible refine zao rfl (.tmp 8) rfl wr.heap.size 0 rfl x R8.out OX.out ?_)
     | (with_reducible refine zao rfl (.tmp 9) rfl w3.heap.size 0 rfl y R9.out OY.out ?_))
    obtain ⟨r,hr⟩:∃ r,decide (TbP.tb x=TbP.tb y)=r:=⟨_,rfl⟩
    have R:=hide hr
    refine (zo5 w4 lo hi lo' hi' x y MX4.out MY4.out SX.out SY.out (by omega) (by omega) (HNS.out x (List.mem_of_getElem? HX.out))).mono ?_
    rintro e w5 ⟨he,hb5⟩
    have he2:e = .returned (.bool r):=by rw [he,← hr,zmQ]
    clear he
    subst he2
    have WB5:=hide (zaa WB4.out hb5 (Nat.le_refl _))
    clear hb5 hr
    cases r
    ·have HF:=hide (decide_eq_false (zcs HXP.out HYP.out (of_decide_eq_false R.out)))
     go_wp2_with fail
     go_ret
     exact ⟨by rw [HF.out];rfl,WB5.out⟩
    ·have HNX:=hide (zdt HEQ.out HXP.out HYP.out (of_decide_eq_true R.out))
     go_wp2_with fail
     go_roundw
     case rel=>exact ⟨k+1,by omega,by go_num,HNX.out,WB5.out⟩
     case measure=>simp [intOf];omega
   ·obtain rfl:k=n:=by omega
    have hkl:¬ ((k:Nat):Int)<(k:Int):=by omega
    have HF:Hid (decide (xs.map TbP.tb=ys.map TbP.tb)=true):=hide (decide_eq_true (by
     have:=HEQ.out
     rw [List.take_of_length_le (by rw [HLX.out];exact Nat.le_refl _),List.take_of_length_le (by rw [HLY.out];exact Nat.le_refl _)] at this
     exact this))
    go_wp2_with fail
    go_ret
    exact ⟨by rw [HF.out];rfl,WB.out⟩
 ·have hnn:((n:Int) != (mm:Int))=true:=by
   rw [bne_iff_ne]
   omega
  have HF:=hide (decide_eq_false (zcV HLX.out HLY.out hnm))
  clear hnm
  go_enter Tryz.func34,Tryz.ntmps34
  go_wp2_with fail
  go_ret
  exact ⟨by rw [HF.out];rfl,Below.refl _ _⟩
def zfI (a b:Up):Bool:=zdk a.at_ b.at_&&(decide (a.re=b.re)&&decide (a.un=b.un))
structure Up2 (w z:World) (lo hi lo' hi':Nat) (x y:UpP):Prop where
 bx:Blk z w.heap.size 33 (updC x)
 by_:Blk z (w.heap.size+1) 33 (updC y)
 mx:UpAt z lo hi x
 my:UpAt z lo' hi' y
 bl:Below w.heap.size w z
 hx:hi≤w.heap.size
 hy:hi'≤w.heap.size
section
variable {w z q:World} {lo hi lo' hi':Nat} {x y:UpP}
theorem Up2.start (h:UpAt w lo hi x) (h':UpAt w lo' hi' y) (hh:hi≤w.heap.size) (hh':hi'≤w.heap.size) :
  Up2 w ((w.alloc (.cells (updC x) 33)).alloc (.cells (updC y) 33)) lo hi lo' hi' x y:=by
 have b1:Below w.heap.size w (w.alloc (.cells (updC x) 33)):=(Below.refl _ _).alloc (Nat.le_refl _) _
 have b2:Below w.heap.size w ((w.alloc (.cells (updC x) 33)).alloc (.cells (updC y) 33)):=b1.alloc b1.size _
 have e:(w.alloc (.cells (updC x) 33)).heap.size=w.heap.size+1:=by simp
 have hn:=Blk.new (w.alloc (.cells (updC x) 33)) 33 (updC y)
 rw [e] at hn
 exact ⟨(Blk.new w _ _).alloc _,hn,h.below (b2.mono hh),h'.below (b2.mono hh'),b2,hh,hh'⟩
theorem Up2.on (h:Up2 w z lo hi lo' hi' x y) (hb:Below z.heap.size z q):Up2 w q lo hi lo' hi' x y :=
 ⟨h.bx.over hb,h.by_.over hb,h.mx.below (hb.mono (Nat.le_trans h.hx h.bl.size)),h.my.below (hb.mono (Nat.le_trans h.hy h.bl.size)),zaa h.bl hb (Nat.le_refl _),h.hx,h.hy⟩
theorem Up2.cx (h:Up2 w z lo hi lo' hi' x y) {j:Nat} {u:Value} (hu:(updL x)[j]?=some u):z.cell? ⟨w.heap.size,j,none⟩=some u:=by
 rw [h.bx.cell];unfold updC;simpa using hu
theorem Up2.cy (h:Up2 w z lo hi lo' hi' x y) {j:Nat} {u:Value} (hu:(updL y)[j]?=some u):z.cell? ⟨w.heap.size+1,j,none⟩=some u:=by
 rw [h.by_.cell];unfold updC;simpa using hu
theorem Up2.rx (h:Up2 w z lo hi lo' hi' x y):z.rangeAt w.heap.size 0 (attL x.at_):=zmG (zah (l:=updL x) h.bx)
theorem Up2.ry (h:Up2 w z lo hi lo' hi' x y):z.rangeAt (w.heap.size+1) 0 (attL y.at_):=zmG (zah (l:=updL y) h.by_)
theorem Up2.hix (h:Up2 w z lo hi lo' hi' x y):hi≤z.heap.size:=Nat.le_trans h.hx h.bl.size
theorem Up2.hiy (h:Up2 w z lo hi lo' hi' x y):hi'≤z.heap.size:=Nat.le_trans h.hy h.bl.size
end
structure FitS (u:UpP):Prop where
 at_:Fit9 u.at_
 rn:u.rn≤1000000000
 nn:u.nn≤1000000000
 re:∀ x∈u.re,x.mn≤1000000000∧x.un≤1000000000
 ne:∀ x∈u.ne,x.mn≤1000000000∧x.un≤1000000000
theorem zgl (w:World) (lo hi lo' hi':Nat) (x y:UpP) (h:UpAt w lo hi x) (h':UpAt w lo' hi' y) (hh:hi≤w.heap.size) (hh':hi'≤w.heap.size) (hf:FitS x) :
  Calls Tryz.prog 13 #[.agg (updC x),.agg (updC y)] w fun e w'=>e = .returned (.bool (zfI x.up y.up))∧Below w.heap.size w w':=by
 have S0:=hide (Up2.start h h' hh hh')
 have HOX:=hide h.ob
 have HOY:=hide h'.ob
 have RX:=hide S0.out.rx
 have RY:=hide S0.out.ry
 have HF:=hide hf
 have E:Hid (zfI x.up y.up=(zdk x.at_.ats y.at_.ats&&(decide (x.re.map TbP.tb=y.re.map TbP.tb)&&decide (x.ne.map TbP.tb=y.ne.map TbP.tb)))):=hide rfl
 rw [E.out]
 obtain ⟨q1,h1⟩:∃ q,zdk x.at_.ats y.at_.ats=q:=⟨_,rfl⟩
 obtain ⟨q2,h2⟩:∃ q,decide (x.re.map TbP.tb=y.re.map TbP.tb)=q:=⟨_,rfl⟩
 obtain ⟨q3,h3⟩:∃ q,decide (x.ne.map TbP.tb=y.ne.map TbP.tb)=q:=⟨_,rfl⟩
 have H1:=hide h1
 have H2:=hide h2
 have H3:=hide h3
 rw [h1,h2,h3]
 clear h h' hf E h1 h2 h3
 go_enter Tryz.func13,Tryz.ntmps13
 go_wp2_with (first
  | ((with_reducible refine zaB ?_ (.tmp 5) rfl w.heap.size 0 rfl RX.out HOX.out ?_);· rfl)
  | ((with_reducible refine zaB ?_ (.tmp 7) rfl (w.heap.size+1) 0 rfl RY.out HOY.out ?_);· rfl))
 refine (zn4 _ lo hi lo' hi' x.at_ y.at_ S0.out.mx.at_ S0.out.my.at_ S0.out.hix S0.out.hiy HF.out.at_).mono ?_
 rw [H1.out]
 rintro e w1 ⟨rfl,hb1⟩
 have S1:=hide (S0.out.on hb1)
 have k24:=S1.out.cx (zii HOX.out)
 have l24:=S1.out.cy (zii HOY.out)
 clear hb1 S0 RX RY
 cases q1
 ·go_wp2
  go_ret
  exact ⟨rfl,S1.out.bl⟩
 ·go_wp2_with fail
  refine (zmk w1 lo hi lo' hi' x.rA y.rA x.rn y.rn x.rc y.rc x.re y.re S1.out.mx.re S1.out.my.re S1.out.hix S1.out.hiy (by have:=HF.out.rn;omega) HF.out.re).mono ?_
  rw [H2.out]
  rintro e w2 ⟨rfl,hb2⟩
  have S2:=hide (S1.out.on hb2)
  have k25:=S2.out.cx (zf2 HOX.out)
  have l25:=S2.out.cy (zf2 HOY.out)
  clear hb2 S1 k24 l24
  cases q2
  ·go_wp2
   go_ret
   exact ⟨rfl,S2.out.bl⟩
  ·go_wp2_with fail
   refine (zmk w2 lo hi lo' hi' x.nA y.nA x.nn y.nn x.nc y.nc x.ne y.ne S2.out.mx.ne S2.out.my.ne S2.out.hix S2.out.hiy (by have:=HF.out.nn;omega) HF.out.ne).mono ?_
   rw [H3.out]
   rintro e w3 ⟨rfl,hb3⟩
   have S3:=hide (S2.out.on hb3)
   go_wp2
   go_ret
   exact ⟨by cases q3 <;> rfl,S3.out.bl⟩
end
end Go.Proofs.YtookpplebikfnaaGreatDoor
