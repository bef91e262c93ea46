/-
  Routes of private networks as values and as blocks: their cells, loads of a whole one and of its parts, when two are equal; their names. No condition.
  Tables and updates as cells and as memory. No condition.
  Which updates are the same: Same of package update, in whatever memory. No condition beyond sizes that fit memory.
-/
import Derived.Test.YthgainmcnjldaaaGreatDoorKMAM
set_option linter.unusedVariables false
set_option linter.unusedSimpArgs false
namespace Go.Proofs.YthgainmcnjldaaaGreatDoor
section
open Go.RowKit
def uroL (u:Ur):List Value:=bvs u.rd++((.int .i64 u.s::(bvs u.bs++[.int .i64 u.k]))++[.int .i64 u.lab])
def uroC (u:Ur):Array Value:=(uroL u).toArray
def zf5 (s:Int) (bs:List UInt8) (k:Int):List Value:=.int .i64 s::(bvs bs++[.int .i64 k])
theorem zgN (s:Int) (bs:List UInt8) (k:Int):(zf5 s bs k).toArray=zdw s bs k:=rfl
section
variable {u:Ur}
theorem zhF (w:u.W):(uroC u).size=27:=by simp [uroC,uroL,bvs,w.rd,w.bs]
theorem zdT (w:u.W):(uroL u).length=27:=by have:=zhF w;simpa [uroC] using this
theorem zem:∃ p r,uroL u=p++(bvs u.rd++r)∧p.length=0:=⟨[],_,rfl,rfl⟩
theorem ze2 (w:u.W):∃ p r,uroL u=p++(zf5 u.s u.bs u.k++r)∧p.length=8:=⟨bvs u.rd,[.int .i64 u.lab],rfl,by simp [bvs,w.rd]⟩
theorem ze3 (w:u.W):∃ p r,uroL u=p++([.int .i64 u.lab]++r)∧p.length=26:=⟨bvs u.rd++zf5 u.s u.bs u.k,[],by simp [uroL,zf5],by simp [bvs,zf5,w.rd,w.bs]⟩
theorem uroC_l (w:u.W):(uroC u)[26]?=some (.int .i64 u.lab):=by
 obtain ⟨p,r,h,hp⟩:=ze3 w
 exact (List.getElem?_toArray).trans (zg7 (j:=0) h hp rfl)
end
theorem zdS {u:Ur} (hu:u.W):(Tryz.prog.info? 200).map (·.size)=some (uroL u).length:=by
 rw [zdT hu]
 kernel_rfl
section
variable {ops:Array Oper} {rest:List Oper} {o:Oper} {a:Act} {w:World} {Q:Exit→Act→World→Prop} {u:Ur}
theorem zaM (x:Operand) (ho:o.op = .load 200 x)
  (g n:Nat) (hx:a.eval x = .pointer (some ⟨g,n,none⟩)) (h:w.rangeAt g n (uroL u)) (hu:u.W) :
  (execOp a.eval o).run Tryz.prog w = .ok (.value (.agg (uroC u))) w:=by
 unfold execOp
 simp only [ho,hx,Instr.loadAt,Instr.sureAddr,Sem.run_bind,Sem.run_pure,Result.andThen_ok,run_loadVar_mid w g n 200 _ _ h Tryz.underlying200 rfl (zdS hu)]
 rfl
end
def eqU (u v:Ur):Bool:=decide (u.rd=v.rd)&&(decide (u.s=v.s∧u.bs=v.bs∧u.k=v.k)&&(decide (u.lab=v.lab)&&true))
theorem zeb (u v:Ur):eqU u v=true↔u=v:=by
 unfold eqU
 simp only [Bool.and_eq_true,decide_eq_true_eq,and_true]
 constructor
 ·rintro ⟨h1,⟨h2,h3,h4⟩,h5⟩
  exact Ur.ext' h1 h2 h3 h4 h5
 ·rintro rfl
  simp
theorem zfG {u:Ur} {p q r:List Value} {n k:Nat} (h:uroL u=p++(q++r)) (hp:p.length=n) (hq:q.length=k):(uroC u).extract n (n+k)=q.toArray:=by
 unfold uroC
 rw [List.extract_toArray,List.extract_eq_take_drop,show n+k-n=k by omega,zg6 h hp hq]
set_option maxRecDepth 100000 in
set_option maxHeartbeats 400000 in
theorem uro_eq (w:World) (d:Nat) {m o:Ur} (hm:m.W) (ho:o.W) :
  (Op.equalIn (d+5) 200 (.agg (uroC m)) (.agg (uroC o))).run Tryz.prog w = .ok (eqU m o) w:=by
 have hS:Tryz.prog.underlying 200=some (.struct (Tryz.prog.fieldsOf 200)):=by kernel_rfl
 have hp:Tryz.prog.stoodInHeld 200=false:=by kernel_rfl
 have a3:=Tryz.isAgg3
 have a23:=Tryz.isAgg117
 have s23:=Tryz.sizeOf117
 have a26:=Tryz.isAgg198
 have s26:=Tryz.sizeOf198
 have p1:∀ {m:Ur},m.W→(part 117 (uroC m) 0).run Tryz.prog w = .ok (.agg (rdC m.rd)) w:=fun {m} hm=>by
  obtain ⟨p,r,hs,hl⟩:=zem (u:=m)
  have:=zfG (k:=8) hs hl (by rw [zav,hm.rd])
  simp [part,a23,s23,this,zcT]
 have p2:∀ {m:Ur},m.W→(part 198 (uroC m) 8).run Tryz.prog w = .ok (.agg (zdw m.s m.bs m.k)) w:=fun {m} hm=>by
  obtain ⟨p,r,hs,hl⟩:=ze2 hm
  have:=zfG (k:=18) hs hl (by simp [zf5,bvs,hm.bs])
  simp [part,a26,s26,this,zgN]
 have p3:∀ {m:Ur},m.W→(part 3 (uroC m) 26).run Tryz.prog w = .ok (.int .i64 m.lab) w:=fun {m} hm=>by
  have:=uroC_l hm
  simp [part,a3,this]
 have e1:=run_equalIn_bytes (P:=Tryz.prog) w (d+2) 117 5 8 Tryz.underlying117 Tryz.underlying5 Tryz.sizeOf5 m.rd o.rd hm.rd ho.rd
 have e2:=ziQ w d m.s o.s m.k o.k m.bs o.bs hm.bs ho.bs
 have e3:=(run_equalIn_int (P:=Tryz.prog) w (d+3) 3 .i64 .i64 m.lab o.lab Tryz.underlying3)
 rw [run_equalIn_agg w (d+4) 200 _ _ hS hp]
 simp only [Program.fieldsOf,Tryz.underlying200]
 have hq:((m.rd==o.rd)&&(decide (m.s=o.s∧m.bs=o.bs∧m.k=o.k)&&((m.lab==o.lab)&&true)))=eqU m o:=by
  unfold eqU
  by_cases h1:m.rd=o.rd <;> by_cases h2:m.lab=o.lab <;> simp [h1,h2]
 rw [← hq]
 refine zaq w (d+4) (of_decide_eq_true (by kernel_rfl)) (p1 hm) (p1 ho) e1 ?_
 refine zaq w (d+4) (of_decide_eq_true (by kernel_rfl)) (p2 hm) (p2 ho) e2 ?_
 refine zaq w (d+4) (of_decide_eq_true (by kernel_rfl)) (p3 hm) (p3 ho) e3 ?_
 exact zb7 w (d+4)
theorem ziV {m o:Ur} (hm:m.W) (ho:o.W) (w:World):(binOp .neq 200 (.agg (uroC m)) (.agg (uroC o))).run Tryz.prog w = .ok (.bool (!eqU m o)) w:=by
 rw [run_neq_struct,uro_eq w 9995 hm ho]
 rfl
theorem zcU {o:Oper} {a:Act} {w:World} (x y:Operand) (ho:o.op = .binOp .neq 200 x y 200) {m n:Ur} (hx:a.eval x = .agg (uroC m)) (hy:a.eval y = .agg (uroC n)) (hm:m.W) (hn:n.W) :
  (execOp a.eval o).run Tryz.prog w = .ok (.value (.bool (!eqU m n))) w:=by
 have hg:Tryz.prog.eqGuardType Tryz.prog.depth 200=false:=by kernel_rfl
 have hg':=run_eqGuard_agg (P:=Tryz.prog) w .neq 200 x y (uroC m) (uroC n) hg
 unfold execOp
 simp only [ho,hx,hy,Sem.run_bind,hg',Result.andThen_ok,ziV hm hn,Sem.run_pure]
end
section
open Go.RowKit
structure TbP where
 s:Int
 f:Int
 ns:Int
 nb:List UInt8
 mA:Option Addr
 mn:Nat
 mc:Nat
 ms:List Mr
 uA:Option Addr
 un:Nat
 uc:Nat
 us:List Ur
def TbP.tb (x:TbP):Tb:=⟨x.s,x.f,x.ns,x.nb,x.ms,x.us⟩
def tbL (x:TbP):List Value:=.int .i64 x.s :: .int .i64 x.f::((.int .i64 x.ns::bvs x.nb)++[.slice x.mA x.mn x.mc,.slice x.uA x.un x.uc])
def tbC (x:TbP):Array Value:=(tbL x).toArray
def mTb (w:World) (lo hi:Nat) (x:TbP):Prop:=AtG mroL w lo hi x.mA x.mn x.ms∧AtG uroL w lo hi x.uA x.un x.us∧x.mn≤x.mc∧x.un≤x.uc
def wTb (x:TbP):Prop:=x.tb.W
theorem mkTb:MK mTb:=fun _ _ _ _ _ hk h=>⟨h.1.keep hk,h.2.1.keep hk,h.2.2⟩
theorem zgE {x:TbP} (h:x.nb.length=16):(tbL x).length=21:=by simp [tbL,bvs,h]
theorem zfI {x:TbP} (h:x.nb.length=16):(tbC x).size=21:=by simp [tbC,tbL,bvs,h]
theorem zfF {x:TbP} (h:wTb x):x.nb.length=16:=h.nb
theorem tbL_W {x:TbP} (h:wTb x):(tbL x).length=21:=zgE h.nb
theorem ziH (x:TbP):∀ u∈tbL x,u.oneCell'=true:=fun u hu=>by
 simp only [tbL,List.mem_cons,List.mem_append,List.not_mem_nil,or_false] at hu
 rcases hu with rfl | rfl | (rfl | hu) | rfl | rfl
 all_goals first | rfl | exact zbP _ u hu
theorem ziI (x:TbP):(tbC x).all (·.oneCell')=true:=by
 rw [Array.all_eq_true_iff_forall_mem]
 intro u hu
 exact ziH x u (by unfold tbC at hu;simpa using hu)
theorem tbL_0 (x:TbP):(tbL x)[0]?=some (.int .i64 x.s):=rfl
theorem tbL_1 (x:TbP):(tbL x)[1]?=some (.int .i64 x.f):=rfl
theorem zfH {x:TbP} (h:x.nb.length=16) (j:Nat):(tbL x)[19+j]?=[Value.slice x.mA x.mn x.mc,.slice x.uA x.un x.uc][j]?:=by
 have e:19+j=(17+j)+2:=by omega
 rw [e]
 simp only [tbL,List.getElem?_cons_succ]
 rw [List.getElem?_append_right (by simp [bvs,h])]
 simp [bvs,h]
theorem ziq {x:TbP} (h:x.nb.length=16):(tbL x)[19]?=some (.slice x.mA x.mn x.mc):=zfH h 0
theorem zip {x:TbP} (h:x.nb.length=16):(tbL x)[20]?=some (.slice x.uA x.un x.uc):=zfH h 1
theorem zhJ {x:TbP} {j:Nat} {u:Value} (hu:(Value.int .i64 x.ns::bvs x.nb)[j]?=some u):(tbL x)[2+j]?=some u:=by
 have e:2+j=j+2:=by omega
 rw [e]
 simp only [tbL,List.getElem?_cons_succ]
 rw [List.getElem?_append_left (List.getElem?_eq_some_iff.1 hu).1]
 exact hu
section
variable {ops:Array Oper} {rest:List Oper} {o:Oper} {a:Act} {w:World} {Q:Exit→Act→World→Prop} {x:TbP} {g i:Nat} {t:TypeId}
theorem ziF (h:x.nb.length=16):(Tryz.prog.info? 115).map (·.size)=some (tbL x).length:=by rw [zgE h];kernel_rfl
theorem zeS (p:Operand) (ho:o.op = .load 115 p) (b i:Nat) (hx:a.eval p = .pointer (some ⟨b,i,none⟩)) {x:TbP} (h:w.rangeAt b i (tbL x)) (hl:x.nb.length=16) :
  (execOp a.eval o).run Tryz.prog w = .ok (.value (.agg (tbC x))) w:=by
 unfold execOp
 simp only [ho,hx,Instr.loadAt,Instr.sureAddr,Sem.run_bind,Sem.run_pure,Result.andThen_ok,run_loadVar_mid w b i 115 _ _ h Tryz.underlying115 rfl (ziF hl)]
 rfl
theorem zba (hw:Region.wanted o (yielded ops a.tmps)=true) (p:Operand) (ho:o.op = .load 115 p) (b i:Nat) (hx:a.eval p = .pointer (some ⟨b,i,none⟩)) (x:TbP) (h:w.rangeAt b i (tbL x)) (hl:x.nb.length=16)
  (hk:wpList Tryz.prog ops Q rest (a.put o.dst (.agg (tbC x))) w):wpList Tryz.prog ops Q (o::rest) a w :=
 zaa hw (zeS p ho b i hx h hl) hk
theorem zbW (hgd:o.guard=none) (p y:Operand) (ho:o.op = .store 115 p y) (g:Nat) (hx:a.eval p = .pointer (some ⟨g,0,none⟩)) (x:TbP) (hy:a.eval y = .agg (tbC x)) (hl:x.nb.length=16) {t:TypeId} {old:Array Value} (h:Blk w g t old) (hold:old.size=21)
  (hk:∀ w',Blk w' g t (tbC x)→w.grownBy w' (some g)→wpList Tryz.prog ops Q rest (a.put o.dst undef) w'):wpList Tryz.prog ops Q (o::rest) a w :=
 wpList_store_row hgd 115 p y ho g (tbC x) hx hy t old h (by rw [zfI hl];kernel_rfl) (by rw [hold,zfI hl]) (ziI x) (hk _ (h.setRow _) (zaE _ _ _))
theorem ziG {x:TbP} (h:w.rangeAt g i (tbL x)):w.rangeAt g (i+2) (.int .i64 x.ns::bvs x.nb):=fun j u hu=>by
 have h1:=h (2+j) u (zhJ hu)
 rwa [← Nat.add_assoc] at h1
theorem zbw (p:Operand) (ho:o.op = .load 37 p) (g i:Nat) (hx:a.eval p = .pointer (some ⟨g,i+2,none⟩)) {x:TbP} (h:w.rangeAt g i (tbL x)) (hl:x.nb.length=16) :
  (execOp a.eval o).run Tryz.prog w = .ok (.value (.agg (zak x.ns x.nb))) w:=by
 have hs:(Tryz.prog.info? 37).map (·.size)=some (Value.int .i64 x.ns::bvs x.nb).length:=by
  rw [show (Value.int .i64 x.ns::bvs x.nb).length=17 by simp [bvs,hl]];kernel_rfl
 unfold execOp
 simp only [ho,hx,Instr.loadAt,Instr.sureAddr,Sem.run_bind,Sem.run_pure,Result.andThen_ok,run_loadVar_mid w g (i+2) 37 _ _ (ziG h) Tryz.underlying37 rfl hs]
 rfl
end
section
variable {w y z:World} {lo hi:Nat} {x:TbP}
end
structure UpP where
 at_:AtP
 rA:Option Addr
 rn:Nat
 rc:Nat
 re:List TbP
 nA:Option Addr
 nn:Nat
 nc:Nat
 ne:List TbP
def UpP.up (u:UpP):Up:=⟨u.at_.ats,u.re.map TbP.tb,u.ne.map TbP.tb⟩
def updL (u:UpP):List Value:=attL u.at_++[.slice u.rA u.rn u.rc,.slice u.nA u.nn u.nc]
def updC (u:UpP):Array Value:=(updL u).toArray
structure UpAt (w:World) (lo hi:Nat) (u:UpP):Prop where
 at_:za8 w lo hi u.at_
 re:RowE tbL mTb wTb w lo hi u.rA u.rn u.re
 ne:RowE tbL mTb wTb w lo hi u.nA u.nn u.ne
 rc:u.rn≤u.rc
 nc:u.nn≤u.nc
section
variable {w w':World} {lo hi lo' hi':Nat} {u:UpP}
theorem UpAt.keep (h:UpAt w lo hi u) (hk:∀ q:Addr,lo≤q.block→q.block<hi→w'.cell? q=w.cell? q):UpAt w' lo hi u :=
 ⟨h.at_.keep hk,h.re.keep mkTb hk,h.ne.keep mkTb hk,h.rc,h.nc⟩
theorem UpAt.below (h:UpAt w lo hi u) (hb:Below hi w w'):UpAt w' lo hi u:=h.keep fun _ _ hp=>hb.cell hp
theorem UpAt.ob (h:UpAt w lo hi u):u.at_.ob.length=16:=h.at_.ob
end
theorem zgz {u:UpP} (h:u.at_.ob.length=16):(updL u)[24]?=some (.slice u.rA u.rn u.rc):=by
 unfold updL
 rw [List.getElem?_append_right (by rw [zcL h];exact Nat.le_refl _),zcL h]
 rfl
theorem zgy {u:UpP} (h:u.at_.ob.length=16):(updL u)[25]?=some (.slice u.nA u.nn u.nc):=by
 unfold updL
 rw [List.getElem?_append_right (by rw [zcL h];decide),zcL h]
 rfl
theorem zgx {w:World} {g i:Nat} {u:UpP} (h:w.rangeAt g i (updL u)):w.rangeAt g i (attL u.at_):=fun j v hv=>h j v (by
 unfold updL
 rw [List.getElem?_append_left (List.getElem?_eq_some_iff.1 hv).1]
 exact hv)
section
variable {ops:Array Oper} {rest:List Oper} {o:Oper} {a:Act} {w:World} {Q:Exit→Act→World→Prop}
end
section
variable {w y z:World} {lo hi:Nat} {u:UpP}
end
end
section
set_option maxRecDepth 20000
set_option maxHeartbeats 2000000
open Go.RowKit
instance decMr:DecidableEq Mr:=fun a b=>if h:zdc a b=true then isTrue ((zcD a b).1 h) else isFalse (fun e=>h ((zcD a b).2 e))
instance decUr:DecidableEq Ur:=fun a b=>if h:eqU a b=true then isTrue ((zeb a b).1 h) else isFalse (fun e=>h ((zeb a b).2 e))
theorem zaN {o:Oper} {a:Act} {w:World} (x:Operand) (ho:o.op = .load 119 x) (g n:Nat) (hx:a.eval x = .pointer (some ⟨g,n,none⟩)) {m:Mr} (h:w.rangeAt g n (mroL m)) (hm:m.W) :
  (execOp a.eval o).run Tryz.prog w = .ok (.value (.agg (mroC m))) w:=by
 unfold execOp
 simp only [ho,hx,Instr.loadAt,Instr.sureAddr,Sem.run_bind,Sem.run_pure,Result.andThen_ok,run_loadVar_mid w g n 119 _ _ h Tryz.underlying119 rfl (zd5 hm)]
 rfl
theorem zcI {o:Oper} {a:Act} {w:World} {b r:Bool} (h:b=r) (he:(execOp a.eval o).run Tryz.prog w = .ok (.value (.bool b)) w):(execOp a.eval o).run Tryz.prog w = .ok (.value (.bool r)) w:=by rw [he,h]
set_option maxHeartbeats 1000000 in
theorem zib (w:World) (lo hi lo' hi':Nat) (A B:Option Addr) (n m c d:Nat) (xs ys:List Mr) (h:AtG mroL w lo hi A n xs) (h':AtG mroL w lo' hi' B m ys) (hsx:∀ x∈xs,x.W) (hsy:∀ x∈ys,x.W) (hh:hi≤w.heap.size) (hh':hi'≤w.heap.size) (hn:n≤1000000000000) :
  Calls Tryz.prog 125 #[.slice A n c,.slice B m d] w fun e w'=>e = .returned (.bool (decide (xs=ys)))∧Below w.heap.size w w':=by
 have H:=hide h
 have H':=hide h'
 have HLX:Hid (xs.length=n):=hide h.len
 have HLY:Hid (ys.length=m):=hide h'.len
 have HSX:=hide hsx
 have HSY:=hide hsy
 clear h h' hsx hsy
 by_cases hnm:n=m
 ·subst hnm
  have hnn:((n:Int) != (n:Int))=false:=by simp
  go_enter Tryz.func125,Tryz.ntmps125
  go_wp2_with fail
  go_loopw [13] (fun i wr=>∃ k:Nat,k≤n∧i = .int .i64 k∧xs.take k=ys.take k∧Below w.heap.size w wr) (fun i _=>n-(intOf i).toNat)
  case atStart=>exact ⟨0,Nat.zero_le _,rfl,rfl,Below.refl _ _⟩
  case round =>
   obtain ⟨k,hk,rfl,heq,hbel⟩:=hrel
   have HEQ:=hide heq
   have WB:=hide hbel
   clear heq hbel
   by_cases hlt:k<n
   ·have hkl:((k:Nat):Int)<(n:Int):=by omega
    have XA:=hide (H.out.below (WB.out.mono hh))
    have YA:=hide (H'.out.below (WB.out.mono hh'))
    obtain ⟨b,o,x,rfl,_,_,hx,hat⟩:=XA.out.at_ (sz:=62) (fun y hy=>zd6 (HSX.out y hy)) hlt
    obtain ⟨b',o',y,rfl,_,_,hy,hat'⟩:=YA.out.at_ (sz:=62) (fun y hy=>zd6 (HSY.out y hy)) hlt
    have HX:=hide hx
    have HY:=hide hy
    have X16:=hide (HSX.out x (List.mem_of_getElem? hx))
    have Y16:=hide (HSY.out y (List.mem_of_getElem? hy))
    have ST:Hid (EqR w wr b (o+k*62) b' (o'+k*62) (mroL x) (mroL y)):=hide ⟨hat,hat',WB.out⟩
    clear hx hy hat hat' XA YA
    by_cases hxy:x=y
    ·have HNX:=hide (zaS HEQ.out HX.out HY.out hxy)
     have NXY:Hid ((!zdc x y)=false):=hide (by rw [(zcD x y).2 hxy];rfl)
     clear hxy
     go_wp2_with fail
     refine wp_region_held_drew (S:=fun z=>EqR w z b (o+k*62) b' (o'+k*62) (mroL x) (mroL y)) (by kernel_rfl) ST.out.drew (fun hHeld=>?_)
     refine rgT 0 ?_
     refine rgT 1 ?_
     refine rgT 2 ?_
     refine rgV 3 (.agg (mroC x)) ?_ ?_
     ·(intro w' hSw;exact zaN (.tmp 18) rfl b (o+k*62) rfl hSw.x X16.out)
     refine rgT 4 ?_
     refine rgT 5 ?_
     refine rgT 6 ?_
     refine rgV 7 (.agg (mroC y)) ?_ ?_
     ·(intro w' hSw;exact zaN (.tmp 22) rfl b' (o'+k*62) rfl hSw.y Y16.out)
     refine rgV 8 (.bool false) ?_ ?_
     ·(intro w' hSw;exact zcI NXY.out (zcV (.tmp 19) (.tmp 23) rfl rfl rfl X16.out Y16.out))
     refine wpAnyH_done (by kernel_rfl) ?_ _
     go_wp2_with fail
     go_roundw
     case rel=>exact ⟨k+1,by omega,by go_num,HNX.out,zai WB.out⟩
     case measure=>simp [intOf];omega
    ·have HF:=hide (decide_eq_false (zaI HX.out HY.out hxy))
     have NXY:Hid ((!zdc x y)=true):=hide (by cases hq:zdc x y;rfl;exact absurd ((zcD x y).1 hq) hxy)
     clear hxy
     go_wp2_with fail
     refine wp_region_held_drew (S:=fun z=>EqR w z b (o+k*62) b' (o'+k*62) (mroL x) (mroL y)) (by kernel_rfl) ST.out.drew (fun hHeld=>?_)
     refine rgT 0 ?_
     refine rgT 1 ?_
     refine rgT 2 ?_
     refine rgV 3 (.agg (mroC x)) ?_ ?_
     ·(intro w' hSw;exact zaN (.tmp 18) rfl b (o+k*62) rfl hSw.x X16.out)
     refine rgT 4 ?_
     refine rgT 5 ?_
     refine rgT 6 ?_
     refine rgV 7 (.agg (mroC y)) ?_ ?_
     ·(intro w' hSw;exact zaN (.tmp 22) rfl b' (o'+k*62) rfl hSw.y Y16.out)
     refine rgV 8 (.bool true) ?_ ?_
     ·(intro w' hSw;exact zcI NXY.out (zcV (.tmp 19) (.tmp 23) rfl rfl rfl X16.out Y16.out))
     refine wpAnyH_done (by kernel_rfl) ?_ _
     go_wp2_with fail
     go_ret
     exact ⟨by rw [HF.out];rfl,zai WB.out⟩
   ·obtain rfl:k=n:=by omega
    have hkl:¬ ((k:Nat):Int)<(k:Int):=by omega
    have HF:Hid (decide (xs=ys)=true):=hide (decide_eq_true (by
     have:=HEQ.out
     rw [List.take_of_length_le (by rw [HLX.out];exact Nat.le_refl _),List.take_of_length_le (by rw [HLY.out];exact Nat.le_refl _)] at this
     exact this))
    go_wp2_with fail
    go_ret
    exact ⟨by rw [HF.out];rfl,WB.out⟩
 ·have hnn:((n:Int) != (m:Int))=true:=by
   rw [bne_iff_ne]
   omega
  have HF:=hide (decide_eq_false (zaK HLX.out HLY.out hnm))
  clear hnm
  go_enter Tryz.func125,Tryz.ntmps125
  go_wp2_with fail
  go_ret
  exact ⟨by rw [HF.out];rfl,Below.refl _ _⟩
set_option maxHeartbeats 1000000 in
theorem zia (w:World) (lo hi lo' hi':Nat) (A B:Option Addr) (n m c d:Nat) (xs ys:List Ur) (h:AtG uroL w lo hi A n xs) (h':AtG uroL w lo' hi' B m ys) (hsx:∀ x∈xs,x.W) (hsy:∀ x∈ys,x.W) (hh:hi≤w.heap.size) (hh':hi'≤w.heap.size) (hn:n≤1000000000000) :
  Calls Tryz.prog 126 #[.slice A n c,.slice B m d] w fun e w'=>e = .returned (.bool (decide (xs=ys)))∧Below w.heap.size w w':=by
 have H:=hide h
 have H':=hide h'
 have HLX:Hid (xs.length=n):=hide h.len
 have HLY:Hid (ys.length=m):=hide h'.len
 have HSX:=hide hsx
 have HSY:=hide hsy
 clear h h' hsx hsy
 by_cases hnm:n=m
 ·subst hnm
  have hnn:((n:Int) != (n:Int))=false:=by simp
  go_enter Tryz.func126,Tryz.ntmps126
  go_wp2_with fail
  go_loopw [13] (fun i wr=>∃ k:Nat,k≤n∧i = .int .i64 k∧xs.take k=ys.take k∧Below w.heap.size w wr) (fun i _=>n-(intOf i).toNat)
  case atStart=>exact ⟨0,Nat.zero_le _,rfl,rfl,Below.refl _ _⟩
  case round =>
   obtain ⟨k,hk,rfl,heq,hbel⟩:=hrel
   have HEQ:=hide heq
   have WB:=hide hbel
   clear heq hbel
   by_cases hlt:k<n
   ·have hkl:((k:Nat):Int)<(n:Int):=by omega
    have XA:=hide (H.out.below (WB.out.mono hh))
    have YA:=hide (H'.out.below (WB.out.mono hh'))
    obtain ⟨b,o,x,rfl,_,_,hx,hat⟩:=XA.out.at_ (sz:=27) (fun y hy=>zdT (HSX.out y hy)) hlt
    obtain ⟨b',o',y,rfl,_,_,hy,hat'⟩:=YA.out.at_ (sz:=27) (fun y hy=>zdT (HSY.out y hy)) hlt
    have HX:=hide hx
    have HY:=hide hy
    have X16:=hide (HSX.out x (List.mem_of_getElem? hx))
    have Y16:=hide (HSY.out y (List.mem_of_getElem? hy))
    have ST:Hid (EqR w wr b (o+k*27) b' (o'+k*27) (uroL x) (uroL y)):=hide ⟨hat,hat',WB.out⟩
    clear hx hy hat hat' XA YA
    by_cases hxy:x=y
    ·have HNX:=hide (zaS HEQ.out HX.out HY.out hxy)
     have NXY:Hid ((!eqU x y)=false):=hide (by rw [(zeb x y).2 hxy];rfl)
     clear hxy
     go_wp2_with fail
     refine wp_region_held_drew (S:=fun z=>EqR w z b (o+k*27) b' (o'+k*27) (uroL x) (uroL y)) (by kernel_rfl) ST.out.drew (fun hHeld=>?_)
     refine rgT 0 ?_
     refine rgT 1 ?_
     refine rgT 2 ?_
     refine rgV 3 (.agg (uroC x)) ?_ ?_
     ·(intro w' hSw;exact zaM (.tmp 18) rfl b (o+k*27) rfl hSw.x X16.out)
     refine rgT 4 ?_
     refine rgT 5 ?_
     refine rgT 6 ?_
     refine rgV 7 (.agg (uroC y)) ?_ ?_
     ·(intro w' hSw;exact zaM (.tmp 22) rfl b' (o'+k*27) rfl hSw.y Y16.out)
     refine rgV 8 (.bool false) ?_ ?_
     ·(intro w' hSw;exact zcI NXY.out (zcU (.tmp 19) (.tmp 23) rfl rfl rfl X16.out Y16.out))
     refine wpAnyH_done (by kernel_rfl) ?_ _
     go_wp2_with fail
     go_roundw
     case rel=>exact ⟨k+1,by omega,by go_num,HNX.out,zai WB.out⟩
     case measure=>simp [intOf];omega
    ·have HF:=hide (decide_eq_false (zaI HX.out HY.out hxy))
     have NXY:Hid ((!eqU x y)=true):=hide (by cases hq:eqU x y;rfl;exact absurd ((zeb x y).1 hq) hxy)
     clear hxy
     go_wp2_with fail
     refine wp_region_held_drew (S:=fun z=>EqR w z b (o+k*27) b' (o'+k*27) (uroL x) (uroL y)) (by kernel_rfl) ST.out.drew (fun hHeld=>?_)
     refine rgT 0 ?_
     refine rgT 1 ?_
     refine rgT 2 ?_
     refine rgV 3 (.agg (uroC x)) ?_ ?_
     ·(intro w' hSw;exact zaM (.tmp 18) rfl b (o+k*27) rfl hSw.x X16.out)
     refine rgT 4 ?_
     refine rgT 5 ?_
     refine rgT 6 ?_
     refine rgV 7 (.agg (uroC y)) ?_ ?_
     ·(intro w' hSw;exact zaM (.tmp 22) rfl b' (o'+k*27) rfl hSw.y Y16.out)
     refine rgV 8 (.bool true) ?_ ?_
     ·(intro w' hSw;exact zcI NXY.out (zcU (.tmp 19) (.tmp 23) rfl rfl rfl X16.out Y16.out))
     refine wpAnyH_done (by kernel_rfl) ?_ _
     go_wp2_with fail
     go_ret
     exact ⟨by rw [HF.out];rfl,zai WB.out⟩
   ·obtain rfl:k=n:=by omega
    have hkl:¬ ((k:Nat):Int)<(k:Int):=by omega
    have HF:Hid (decide (xs=ys)=true):=hide (decide_eq_true (by
     have:=HEQ.out
     rw [List.take_of_length_le (by rw [HLX.out];exact Nat.le_refl _),List.take_of_length_le (by rw [HLY.out];exact Nat.le_refl _)] at this
     exact this))
    go_wp2_with fail
    go_ret
    exact ⟨by rw [HF.out];rfl,WB.out⟩
 ·have hnn:((n:Int) != (m:Int))=true:=by
   rw [bne_iff_ne]
   omega
  have HF:=hide (decide_eq_false (zaK HLX.out HLY.out hnm))
  clear hnm
  go_enter Tryz.func126,Tryz.ntmps126
  go_wp2_with fail
  go_ret
  exact ⟨by rw [HF.out];rfl,Below.refl _ _⟩
def zb1 (a b:Tb):Bool:=decide (a.s=b.s)&&(decide (a.f=b.f)&&(decide (a.ns=b.ns∧a.nb=b.nb)&&(decide (a.ms=b.ms)&&decide (a.us=b.us))))
theorem zbJ (a b:Tb):zb1 a b=true↔a=b:=by
 unfold zb1
 simp only [Bool.and_eq_true,decide_eq_true_eq]
 constructor
 ·rintro ⟨h1,h2,⟨h3,h4⟩,h5,h6⟩
  cases a;cases b
  simp_all
 ·rintro rfl
  simp
theorem zf1 {a b:Tb} (h:a≠b):zb1 a b=false:=by
 cases hq:zb1 a b
 ·rfl
 ·exact absurd ((zbJ a b).1 hq) h
instance decTb:DecidableEq Tb:=fun a b=>if h:zb1 a b=true then isTrue ((zbJ a b).1 h) else isFalse (fun e=>h ((zbJ a b).2 e))
structure Tb2 (w z:World) (lo hi lo' hi':Nat) (x y:TbP):Prop where
 bx:Blk z w.heap.size 115 (tbC x)
 by_:Blk z (w.heap.size+1) 115 (tbC y)
 mx:mTb z lo hi x
 my:mTb z lo' hi' y
 bl:Below w.heap.size w z
 hx:hi≤w.heap.size
 hy:hi'≤w.heap.size
 wx:wTb x
 wy:wTb y
section
variable {w z q:World} {lo hi lo' hi':Nat} {x y:TbP}
theorem Tb2.start (h:mTb w lo hi x) (h':mTb w lo' hi' y) (hw:wTb x) (hw':wTb y) (hh:hi≤w.heap.size) (hh':hi'≤w.heap.size) :
  Tb2 w ((w.alloc (.cells (tbC x) 115)).alloc (.cells (tbC y) 115)) lo hi lo' hi' x y:=by
 have b1:Below w.heap.size w (w.alloc (.cells (tbC x) 115)):=(Below.refl _ _).alloc (Nat.le_refl _) _
 have b2:Below w.heap.size w ((w.alloc (.cells (tbC x) 115)).alloc (.cells (tbC y) 115)):=b1.alloc b1.size _
 have e:(w.alloc (.cells (tbC x) 115)).heap.size=w.heap.size+1:=by simp
 have hn:=Blk.new (w.alloc (.cells (tbC x) 115)) 115 (tbC y)
 rw [e] at hn
 exact ⟨(Blk.new w _ _).alloc _,hn,mkTb _ _ _ _ _ (fun p _ hp=>b2.cell (by omega)) h,mkTb _ _ _ _ _ (fun p _ hp=>b2.cell (by omega)) h',b2,hh,hh',hw,hw'⟩
theorem Tb2.on (h:Tb2 w z lo hi lo' hi' x y) (hb:Below z.heap.size z q):Tb2 w q lo hi lo' hi' x y :=
 ⟨h.bx.over hb,h.by_.over hb,mkTb _ _ _ _ _ (fun p _ hp=>hb.cell (by have:=h.hx;have:=h.bl.size;omega)) h.mx,mkTb _ _ _ _ _ (fun p _ hp=>hb.cell (by have:=h.hy;have:=h.bl.size;omega)) h.my,zab h.bl hb (Nat.le_refl _),h.hx,h.hy,h.wx,h.wy⟩
theorem Tb2.cx (h:Tb2 w z lo hi lo' hi' x y) {j:Nat} {u:Value} (hu:(tbL x)[j]?=some u):z.cell? ⟨w.heap.size,j,none⟩=some u:=by
 rw [h.bx.cell];unfold tbC;simpa using hu
theorem Tb2.cy (h:Tb2 w z lo hi lo' hi' x y) {j:Nat} {u:Value} (hu:(tbL y)[j]?=some u):z.cell? ⟨w.heap.size+1,j,none⟩=some u:=by
 rw [h.by_.cell];unfold tbC;simpa using hu
theorem Tb2.rx (h:Tb2 w z lo hi lo' hi' x y):z.rangeAt w.heap.size 0 (tbL x):=zad (l:=tbL x) h.bx
theorem Tb2.ry (h:Tb2 w z lo hi lo' hi' x y):z.rangeAt (w.heap.size+1) 0 (tbL y):=zad (l:=tbL y) h.by_
end
theorem zfa (a b:Tb):zb1 a b=decide (a=b):=by
 by_cases h:a=b
 ·rw [decide_eq_true h];exact (zbJ a b).2 h
 ·rw [decide_eq_false h];exact zf1 h
abbrev zTab:Array Value:=#[.int .i64 0,.int .i64 0,.int .i64 0,.int .u8 0,.int .u8 0,.int .u8 0,.int .u8 0,.int .u8 0,.int .u8 0,.int .u8 0,.int .u8 0,.int .u8 0,.int .u8 0,.int .u8 0,.int .u8 0,.int .u8 0,.int .u8 0,.int .u8 0,.int .u8 0,.slice none 0 0,.slice none 0 0]
theorem zcB {ops:Array Oper} {rest:List Oper} {o:Oper} {a:Act} {w:World} {Q:Exit→Act→World→Prop} (hw:Region.wanted o (yielded ops a.tmps)=true) (x y:Operand) (ho:o.op = .binOp .eql 37 x y 37) {s t:Int} {xs ys:List UInt8}
  (hx:a.eval x = .agg (zak s xs)) (hy:a.eval y = .agg (zak t ys)) (lx:xs.length=16) (ly:ys.length=16) (b:Bool) (hb:decide (s=t∧xs=ys)=b) (hk:wpList Tryz.prog ops Q rest (a.put o.dst (.bool b)) w):wpList Tryz.prog ops Q (o::rest) a w:=by
 have hg:Tryz.prog.eqGuardType Tryz.prog.depth 37=false:=by kernel_rfl
 have hg':=run_eqGuard_agg (P:=Tryz.prog) w .eql 37 x y (zak s xs) (zak t ys) hg
 refine zaa hw ?_ hk
 unfold execOp
 simp only [ho,hx,hy,Sem.run_bind,hg',Result.andThen_ok,zea s t xs ys lx ly,hb,Sem.run_pure]
theorem zf0 (w:World) (lo hi lo' hi':Nat) (x y:TbP) (h:mTb w lo hi x) (h':mTb w lo' hi' y) (hw:wTb x) (hw':wTb y) (hh:hi≤w.heap.size) (hh':hi'≤w.heap.size) (hn:x.mn≤1000000000∧x.un≤1000000000) :
  Calls Tryz.prog 89 #[.agg (tbC x),.agg (tbC y)] w fun e w'=>e = .returned (.bool (zb1 x.tb y.tb))∧Below w.heap.size w w':=by
 have S0:=hide (Tb2.start h h' hw hw' hh hh')
 have x0:=S0.out.cx (tbL_0 x)
 have x1:=S0.out.cx (tbL_1 x)
 have y0:=S0.out.cy (tbL_0 y)
 have y1:=S0.out.cy (tbL_1 y)
 have x19:=S0.out.cx (ziq hw.nb)
 have y19:=S0.out.cy (ziq hw'.nb)
 have HOX:=hide (zfF hw)
 have HOY:=hide (zfF hw')
 have RX:=hide S0.out.rx
 have RY:=hide S0.out.ry
 have HN:=hide hn
 have HZ:=hide S0.out.bl.size
 have E:Hid (zb1 x.tb y.tb=(decide (x.s=y.s)&&(decide (x.f=y.f)&&(decide (x.ns=y.ns∧x.nb=y.nb)&&(decide (x.ms=y.ms)&&decide (x.us=y.us)))))):=hide rfl
 rw [E.out]
 clear h h' hw hw' hn E
 by_cases h1:x.s=y.s
 ·rw [decide_eq_true h1,Bool.true_and]
  by_cases h2:x.f=y.f
  ·rw [decide_eq_true h2,Bool.true_and]
   cases h3:decide (x.ns=y.ns∧x.nb=y.nb)
   ·have H3:=hide h3
    clear h3
    go_enter Tryz.func89,Tryz.ntmps89
    go_wp2_with (first
     | ((with_reducible refine zaa ?_ (zbw (.tmp 18) rfl w.heap.size 0 rfl RX.out HOX.out) ?_);· rfl)
     | ((with_reducible refine zaa ?_ (zbw (.tmp 20) rfl (w.heap.size+1) 0 rfl RY.out HOY.out) ?_);· rfl)
     | ((with_reducible refine zcB ?_ (.tmp 19) (.tmp 21) rfl rfl rfl HOX.out HOY.out _ H3.out ?_);· rfl))
    go_ret
    exact ⟨rfl,S0.out.bl⟩
   ·have H3:=hide h3
    clear h3
    rw [Bool.true_and]
    obtain ⟨r,hr⟩:∃ r,decide (x.ms=y.ms)=r:=⟨_,rfl⟩
    have HR:=hide hr
    rw [hr]
    clear hr
    obtain ⟨q,hq⟩:∃ q,decide (x.us=y.us)=q:=⟨_,rfl⟩
    have HQ:=hide hq
    rw [hq]
    clear hq
    go_enter Tryz.func89,Tryz.ntmps89
    go_wp2_with (first
     | ((with_reducible refine zaa ?_ (zbw (.tmp 18) rfl w.heap.size 0 rfl RX.out HOX.out) ?_);· rfl)
     | ((with_reducible refine zaa ?_ (zbw (.tmp 20) rfl (w.heap.size+1) 0 rfl RY.out HOY.out) ?_);· rfl)
     | ((with_reducible refine zcB ?_ (.tmp 19) (.tmp 21) rfl rfl rfl HOX.out HOY.out _ H3.out ?_);· rfl))
    refine (zib _ lo hi lo' hi' x.mA y.mA x.mn y.mn x.mc y.mc x.ms y.ms S0.out.mx.1 S0.out.my.1 S0.out.wx.ms S0.out.wy.ms (Nat.le_trans hh HZ.out) (Nat.le_trans hh' HZ.out) (by have:=HN.out.1;omega)).mono ?_
    rw [HR.out]
    rintro e w1 ⟨rfl,hb1⟩
    have S1:=hide (S0.out.on hb1)
    have HZ1:=hide S1.out.bl.size
    have k20:=S1.out.cx (zip HOX.out)
    have l20:=S1.out.cy (zip HOY.out)
    clear hb1 S0 RX RY HZ
    cases r
    ·go_wp2
     go_ret
     exact ⟨rfl,S1.out.bl⟩
    ·go_wp2_with fail
     refine (zia w1 lo hi lo' hi' x.uA y.uA x.un y.un x.uc y.uc x.us y.us S1.out.mx.2.1 S1.out.my.2.1 S1.out.wx.us S1.out.wy.us (Nat.le_trans hh HZ1.out) (Nat.le_trans hh' HZ1.out) (by have:=HN.out.2;omega)).mono ?_
     rw [HQ.out]
     rintro e w2 ⟨rfl,hb2⟩
     have S2:=hide (S1.out.on hb2)
     clear hb2
     go_wp2
     go_ret
     exact ⟨by cases q <;> rfl,S2.out.bl⟩
  ·rw [decide_eq_false h2,Bool.false_and]
   go_enter Tryz.func89,Tryz.ntmps89
   go_wp2
   go_ret
   exact ⟨rfl,S0.out.bl⟩
 ·rw [decide_eq_false h1,Bool.false_and]
  go_enter Tryz.func89,Tryz.ntmps89
  go_wp2
  go_ret
  exact ⟨rfl,S0.out.bl⟩
theorem zeU (w:World) (lo hi lo' hi':Nat) (A B:Option Addr) (n mm c d:Nat) (xs ys:List TbP) (h:RowE tbL mTb wTb w lo hi A n xs) (h':RowE tbL mTb wTb w lo' hi' B mm ys) (hh:hi≤w.heap.size) (hh':hi'≤w.heap.size) (hn:n≤1000000000000) (hns:∀ x∈xs,x.mn≤1000000000∧x.un≤1000000000) :
  Calls Tryz.prog 88 #[.slice A n c,.slice B mm d,.func (.func 89) #[] #[]] w fun e w'=>e = .returned (.bool (decide (xs.map TbP.tb=ys.map TbP.tb)))∧Below w.heap.size w w':=by
 have H:=hide h
 have H':=hide h'
 have HLX:Hid ((xs.map TbP.tb).length=n):=hide (by rw [List.length_map];exact h.len)
 have HLY:Hid ((ys.map TbP.tb).length=mm):=hide (by rw [List.length_map];exact h'.len)
 have HNS:=hide hns
 clear hns
 clear h h'
 by_cases hnm:n=mm
 ·subst hnm
  have hnn:((n:Int) != (n:Int))=false:=by simp
  go_enter Tryz.func88,Tryz.ntmps88
  go_wp2_with fail
  go_loopw [17] (fun i wr=>∃ k:Nat,k≤n∧i = .int .i64 k∧(xs.map TbP.tb).take k=(ys.map TbP.tb).take k∧Below w.heap.size w wr) (fun i _=>n-(intOf i).toNat)
  case atStart=>exact ⟨0,Nat.zero_le _,rfl,rfl,Below.refl _ _⟩
  case round =>
   obtain ⟨k,hk,rfl,heq,hbel⟩:=hrel
   have HEQ:=hide heq
   have WB:=hide hbel
   clear heq hbel
   by_cases hlt:k<n
   ·have hkl:((k:Nat):Int)<(n:Int):=by omega
    have XA:=hide (H.out.below mkTb (WB.out.mono hh))
    have YA:=hide (H'.out.below mkTb (WB.out.mono hh'))
    obtain ⟨b,o,x,rfl,hb1,hb2,hx,hat⟩:=XA.out.row.at_ (sz:=21) (fun y hy=>tbL_W (XA.out.sz y hy)) hlt
    obtain ⟨b',o',y,rfl,hb1',hb2',hy,hat'⟩:=YA.out.row.at_ (sz:=21) (fun y hy=>tbL_W (YA.out.sz y hy)) hlt
    have HX:=hide hx
    have HY:=hide hy
    have HAT:=hide hat
    have HAT':=hide hat'
    have MX:=hide (XA.out.mem x (List.mem_of_getElem? hx))
    have MY:=hide (YA.out.mem y (List.mem_of_getElem? hy))
    have SX:Hid (wTb x):=hide (XA.out.sz x (List.mem_of_getElem? hx))
    have SY:Hid (wTb y):=hide (YA.out.sz y (List.mem_of_getElem? hy))
    have HXP:Hid ((xs.map TbP.tb)[k]?=some (TbP.tb x)):=hide (by rw [List.getElem?_map,hx];rfl)
    have HYP:Hid ((ys.map TbP.tb)[k]?=some (TbP.tb y)):=hide (by rw [List.getElem?_map,hy];rfl)
    have hwz:=WB.out.size
    have NEW8:=hide (Blk.new wr 115 zTab)
    have OX:=hide (zfF SX.out)
    have OY:=hide (zfF SY.out)
    clear hx hy hat hat'
    go_wp2_with (first
     | (with_reducible refine zba rfl (.tmp 20) rfl b (o+k*21) rfl x HAT.out OX.out ?_)
     | (refine zbW rfl (.tmp 8) (.tmp 21) rfl wr.heap.size rfl x rfl OX.out NEW8.out rfl ?_;intro w3 hb3 hg3;have B3:=hide hb3;have W3:Hid (Below wr.heap.size wr w3):=hide (((Below.refl _ _).alloc (Nat.le_refl _) _).grown hg3 (by simp) (by simp));clear hb3 hg3;refine Hid.out ?_))
    refine hide ?_
    have hz3:=W3.out.size
    have HAT3:Hid (w3.rangeAt b' (o'+k*21) (tbL y)):=hide (fun j u hu=>by rw [W3.out.cell (by show b'<wr.heap.size;omega)];exact HAT'.out j u hu)
    have NEW9:=hide (Blk.new w3 115 zTab)
    clear NEW8
    go_wp2_with (first
     | (with_reducible refine zba rfl (.tmp 24) rfl b' (o'+k*21) rfl y HAT3.out OY.out ?_)
     | (refine zbW rfl (.tmp 9) (.tmp 25) rfl w3.heap.size rfl y rfl OY.out NEW9.out rfl ?_;intro w4 hb4 hg4;have B4:=hide hb4;have W4:Hid (Below w3.heap.size w3 w4):=hide (((Below.refl _ _).alloc (Nat.le_refl _) _).grown hg4 (by simp) (by simp));clear hb4 hg4;refine Hid.out ?_))
    refine hide ?_
    have hz4:=W4.out.size
    have R8:=hide (zad (l:=tbL x) (B3.out.over W4.out))
    have R9:=hide (zad (l:=tbL y) B4.out)
    have W14:Hid (Below wr.heap.size wr w4):=hide (zab W3.out W4.out (Nat.le_refl _))
    have WB4:=hide (zab WB.out W14.out (Nat.le_refl _))
    have MX4:=hide (mkTb _ _ _ _ _ (fun p _ hp=>W14.out.cell (by omega)) MX.out)
    have MY4:=hide (mkTb _ _ _ _ _ (fun p _ hp=>W14.out.cell (by omega)) MY.out)
    clear NEW9 B3 B4 W3 W4 XA YA MX MY
    go_wp2_with (first
     | (with_reducible refine zba rfl (.tmp 8) rfl wr.heap.size 0 rfl x R8.out OX.out ?_)
     | (with_reducible refine zba rfl (.tmp 9) rfl w3.heap.size 0 rfl y R9.out OY.out ?_))
    obtain ⟨r,hr⟩:∃ r,decide (TbP.tb x=TbP.tb y)=r:=⟨_,rfl⟩
    have R:=hide hr
    refine (zf0 w4 lo hi lo' hi' x y MX4.out MY4.out SX.out SY.out (by omega) (by omega) (HNS.out x (List.mem_of_getElem? HX.out))).mono ?_
    rintro e w5 ⟨he,hb5⟩
    have he2:e = .returned (.bool r):=by rw [he,← hr,zfa]
    clear he
    subst he2
    have WB5:=hide (zab WB4.out hb5 (Nat.le_refl _))
    clear hb5 hr
    cases r
    ·have HF:=hide (decide_eq_false (zaI HXP.out HYP.out (of_decide_eq_false R.out)))
     go_wp2_with fail
     go_ret
     exact ⟨by rw [HF.out];rfl,WB5.out⟩
    ·have HNX:=hide (zaS HEQ.out HXP.out HYP.out (of_decide_eq_true R.out))
     go_wp2_with fail
     go_roundw
     case rel=>exact ⟨k+1,by omega,by go_num,HNX.out,WB5.out⟩
     case measure=>simp [intOf];omega
   ·obtain rfl:k=n:=by omega
    have hkl:¬ ((k:Nat):Int)<(k:Int):=by omega
    have HF:Hid (decide (xs.map TbP.tb=ys.map TbP.tb)=true):=hide (decide_eq_true (by
     have:=HEQ.out
     rw [List.take_of_length_le (by rw [HLX.out];exact Nat.le_refl _),List.take_of_length_le (by rw [HLY.out];exact Nat.le_refl _)] at this
     exact this))
    go_wp2_with fail
    go_ret
    exact ⟨by rw [HF.out];rfl,WB.out⟩
 ·have hnn:((n:Int) != (mm:Int))=true:=by
   rw [bne_iff_ne]
   omega
  have HF:=hide (decide_eq_false (zaK HLX.out HLY.out hnm))
  clear hnm
  go_enter Tryz.func88,Tryz.ntmps88
  go_wp2_with fail
  go_ret
  exact ⟨by rw [HF.out];rfl,Below.refl _ _⟩
def zfK (a b:Up):Bool:=zct a.at_ b.at_&&(decide (a.re=b.re)&&decide (a.un=b.un))
structure Up2 (w z:World) (lo hi lo' hi':Nat) (x y:UpP):Prop where
 bx:Blk z w.heap.size 49 (updC x)
 by_:Blk z (w.heap.size+1) 49 (updC y)
 mx:UpAt z lo hi x
 my:UpAt z lo' hi' y
 bl:Below w.heap.size w z
 hx:hi≤w.heap.size
 hy:hi'≤w.heap.size
section
variable {w z q:World} {lo hi lo' hi':Nat} {x y:UpP}
theorem Up2.start (h:UpAt w lo hi x) (h':UpAt w lo' hi' y) (hh:hi≤w.heap.size) (hh':hi'≤w.heap.size) :
  Up2 w ((w.alloc (.cells (updC x) 49)).alloc (.cells (updC y) 49)) lo hi lo' hi' x y:=by
 have b1:Below w.heap.size w (w.alloc (.cells (updC x) 49)):=(Below.refl _ _).alloc (Nat.le_refl _) _
 have b2:Below w.heap.size w ((w.alloc (.cells (updC x) 49)).alloc (.cells (updC y) 49)):=b1.alloc b1.size _
 have e:(w.alloc (.cells (updC x) 49)).heap.size=w.heap.size+1:=by simp
 have hn:=Blk.new (w.alloc (.cells (updC x) 49)) 49 (updC y)
 rw [e] at hn
 exact ⟨(Blk.new w _ _).alloc _,hn,h.below (b2.mono hh),h'.below (b2.mono hh'),b2,hh,hh'⟩
theorem Up2.on (h:Up2 w z lo hi lo' hi' x y) (hb:Below z.heap.size z q):Up2 w q lo hi lo' hi' x y :=
 ⟨h.bx.over hb,h.by_.over hb,h.mx.below (hb.mono (Nat.le_trans h.hx h.bl.size)),h.my.below (hb.mono (Nat.le_trans h.hy h.bl.size)),zab h.bl hb (Nat.le_refl _),h.hx,h.hy⟩
theorem Up2.cx (h:Up2 w z lo hi lo' hi' x y) {j:Nat} {u:Value} (hu:(updL x)[j]?=some u):z.cell? ⟨w.heap.size,j,none⟩=some u:=by
 rw [h.bx.cell];unfold updC;simpa using hu
theorem Up2.cy (h:Up2 w z lo hi lo' hi' x y) {j:Nat} {u:Value} (hu:(updL y)[j]?=some u):z.cell? ⟨w.heap.size+1,j,none⟩=some u:=by
 rw [h.by_.cell];unfold updC;simpa using hu
theorem Up2.rx (h:Up2 w z lo hi lo' hi' x y):z.rangeAt w.heap.size 0 (attL x.at_):=zgx (zad (l:=updL x) h.bx)
theorem Up2.ry (h:Up2 w z lo hi lo' hi' x y):z.rangeAt (w.heap.size+1) 0 (attL y.at_):=zgx (zad (l:=updL y) h.by_)
theorem Up2.hix (h:Up2 w z lo hi lo' hi' x y):hi≤z.heap.size:=Nat.le_trans h.hx h.bl.size
theorem Up2.hiy (h:Up2 w z lo hi lo' hi' x y):hi'≤z.heap.size:=Nat.le_trans h.hy h.bl.size
end
structure FitS (u:UpP):Prop where
 at_:Fit9 u.at_
 rn:u.rn≤1000000000
 nn:u.nn≤1000000000
 re:∀ x∈u.re,x.mn≤1000000000∧x.un≤1000000000
 ne:∀ x∈u.ne,x.mn≤1000000000∧x.un≤1000000000
theorem zgw (w:World) (lo hi lo' hi':Nat) (x y:UpP) (h:UpAt w lo hi x) (h':UpAt w lo' hi' y) (hh:hi≤w.heap.size) (hh':hi'≤w.heap.size) (hf:FitS x) :
  Calls Tryz.prog 55 #[.agg (updC x),.agg (updC y)] w fun e w'=>e = .returned (.bool (zfK x.up y.up))∧Below w.heap.size w w':=by
 have S0:=hide (Up2.start h h' hh hh')
 have HOX:=hide h.ob
 have HOY:=hide h'.ob
 have RX:=hide S0.out.rx
 have RY:=hide S0.out.ry
 have HF:=hide hf
 have E:Hid (zfK x.up y.up=(zct x.at_.ats y.at_.ats&&(decide (x.re.map TbP.tb=y.re.map TbP.tb)&&decide (x.ne.map TbP.tb=y.ne.map TbP.tb)))):=hide rfl
 rw [E.out]
 obtain ⟨q1,h1⟩:∃ q,zct x.at_.ats y.at_.ats=q:=⟨_,rfl⟩
 obtain ⟨q2,h2⟩:∃ q,decide (x.re.map TbP.tb=y.re.map TbP.tb)=q:=⟨_,rfl⟩
 obtain ⟨q3,h3⟩:∃ q,decide (x.ne.map TbP.tb=y.ne.map TbP.tb)=q:=⟨_,rfl⟩
 have H1:=hide h1
 have H2:=hide h2
 have H3:=hide h3
 rw [h1,h2,h3]
 clear h h' hf E h1 h2 h3
 go_enter Tryz.func55,Tryz.ntmps55
 go_wp2_with (first
  | ((with_reducible refine zbY ?_ (.tmp 5) rfl w.heap.size 0 rfl RX.out HOX.out ?_);· rfl)
  | ((with_reducible refine zbY ?_ (.tmp 7) rfl (w.heap.size+1) 0 rfl RY.out HOY.out ?_);· rfl))
 refine (zhO _ lo hi lo' hi' x.at_ y.at_ S0.out.mx.at_ S0.out.my.at_ S0.out.hix S0.out.hiy HF.out.at_).mono ?_
 rw [H1.out]
 rintro e w1 ⟨rfl,hb1⟩
 have S1:=hide (S0.out.on hb1)
 have k24:=S1.out.cx (zgz HOX.out)
 have l24:=S1.out.cy (zgz HOY.out)
 clear hb1 S0 RX RY
 cases q1
 ·go_wp2
  go_ret
  exact ⟨rfl,S1.out.bl⟩
 ·go_wp2_with fail
  refine (zeU w1 lo hi lo' hi' x.rA y.rA x.rn y.rn x.rc y.rc x.re y.re S1.out.mx.re S1.out.my.re S1.out.hix S1.out.hiy (by have:=HF.out.rn;omega) HF.out.re).mono ?_
  rw [H2.out]
  rintro e w2 ⟨rfl,hb2⟩
  have S2:=hide (S1.out.on hb2)
  have k25:=S2.out.cx (zgy HOX.out)
  have l25:=S2.out.cy (zgy HOY.out)
  clear hb2 S1 k24 l24
  cases q2
  ·go_wp2
   go_ret
   exact ⟨rfl,S2.out.bl⟩
  ·go_wp2_with fail
   refine (zeU w2 lo hi lo' hi' x.nA y.nA x.nn y.nn x.nc y.nc x.ne y.ne S2.out.mx.ne S2.out.my.ne S2.out.hix S2.out.hiy (by have:=HF.out.nn;omega) HF.out.ne).mono ?_
   rw [H3.out]
   rintro e w3 ⟨rfl,hb3⟩
   have S3:=hide (S2.out.on hb3)
   go_wp2
   go_ret
   exact ⟨by cases q3 <;> rfl,S3.out.bl⟩
end
end Go.Proofs.YthgainmcnjldaaaGreatDoor
