/-
  The small case of layer 10's statements comes out right. The one condition: the tables hold what their texts lay.
  UpdateSafe, walked: it returns true, whatever comes in.
-/
import Derived.Test.YtookpplebikfnaaGreatDoorKSBK
import Derived.Test.YtookpplebikfnaaGreatDoorKSBL
set_option linter.unusedVariables false
set_option linter.unusedSimpArgs false
namespace Go.Proofs.YtookpplebikfnaaGreatDoor
section
open Go.RowKit
def zqi:Tb:=⟨4,5,0,zax,[],[]⟩
def zsQ:Up:=⟨zbY,[],[zqi]⟩
def zj8:List UInt8:=[0,0,0,6,128,15,3,0,1,5]
def zmk:List UInt8:=[0,0,0,3,128,15,0]
def zu4:Rw:=⟨128,15,[]⟩
theorem zsT:zjf zsQ=0:=by kernel_rfl
theorem zsS:zo2 zsQ=zj8:=by kernel_rfl
theorem zoA:zd0 zmk=true:=by kernel_rfl
theorem zqk:(zcU (ownB zmk)).1=[zu4]:=by kernel_rfl
theorem zic:tabs [zu4]=([],[],3):=by kernel_rfl
theorem zsf (w:World) (t:TypeId) (bs:List UInt8):At (w.alloc (.cells (bvs bs).toArray t)) w.heap.size (w.heap.size+1) (some ⟨w.heap.size,0,none⟩) bs.length bs:=by
 have hB:=Blk.new w t (bvs bs).toArray
 exact ⟨rfl,fun _=>⟨_,0,rfl,Nat.le_refl _,by omega,fun j u hu=>by rw [Nat.zero_add,hB.cell];simp [bvs,hu]⟩⟩
theorem zu5 (w:World) (lo hi:Nat) (A:Option Addr) (n c:Nat) (h:At w lo hi A n zmk) (hh:hi≤w.heap.size) (hn:n≤140737488355328) (hN:zaL w) (hK:zcv w) :
  Calls Tryz.prog 11 #[.slice A n c] w fun e w'=>∃ U:UpP,e = .returned (.tuple #[.agg (updC U),.int .i64 3,.agg (zfw 3 9)])∧U.at_.ob.length=16∧Below w.heap.size w w':=by
 refine (zjt w lo hi A n c zmk h hh hn hN hK zu4 zqk rfl rfl (by decide)).mono ?_
 ·rintro e w' ⟨U,o,nc,ns,rfl,hu,ho,hb⟩
  have key:o=3∧nc=3∧ns=9:=by
   generalize U.up=V at ho
   cases ho with
   | torn h1=>exact absurd (zoA.symm.trans h1) (by decide)
   | reset a rest s _ h2=>exact absurd h2.2.2 (by decide)
   | table a rest o _ h2 _ h4=>exact ⟨rfl,rfl,rfl⟩
   | held a rest o _ h2 _ h4 =>
    obtain ⟨_,rfl,rfl⟩:=h2
    rw [zic] at h4
    exact absurd h4 (by decide)
   | reach a rest o m _ h2 _ h4 h5 _ _ =>
    obtain ⟨_,rfl,rfl⟩:=h2
    rw [zic] at h4
    exact absurd h4.symm h5
   | none a rest o m _ h2 _ h4 h5 _ _ =>
    obtain ⟨_,rfl,rfl⟩:=h2
    rw [zic] at h4
    exact absurd h4.symm h5
  obtain ⟨rfl,rfl,rfl⟩:=key
  exact ⟨U,rfl,hu.ob,hb⟩
theorem ztN {p:AtP} {w:World} {lo hi:Nat} (h:zar w lo hi p) (e:p.ats=zbY):Fit9 p:=by
 have e1:(p.path.map SgP.sg).length=0:=congrArg (fun a:Ats=>a.path.length) e
 have e2:p.cl.length=0:=congrArg (fun a:Ats=>a.cl.length) e
 have e3:p.ex.length=0:=congrArg (fun a:Ats=>a.ex.length) e
 have e4:(p.tl.map TnP.tun).length=0:=congrArg (fun a:Ats=>a.tn.length) e
 rw [List.length_map] at e1 e4
 have a1:=h.path.len
 have a2:=h.cl.len
 have a3:=h.ex.len
 have a4:=h.tl.len
 refine ⟨by omega,fun x hx=>?_,by omega,by omega,by omega⟩
 rw [List.eq_nil_of_length_eq_zero e1] at hx
 cases hx
theorem fit_sm {w:World} {lo hi:Nat} {U:UpP} (h:UpAt w lo hi U) (e:U.ne.map TbP.tb=[zqi]∧U.re.map TbP.tb=[]∧U.at_.ats=zbY):FitU U:=by
 refine ⟨fun _=>ztN h.at_ e.2.2,fun x hx=>?_,fun x hx=>?_⟩
 ·have h1:x.tb∈U.re.map TbP.tb:=List.mem_map.2 ⟨x,hx,rfl⟩
  rw [e.2.1] at h1
  cases h1
 ·have h1:x.tb∈U.ne.map TbP.tb:=List.mem_map.2 ⟨x,hx,rfl⟩
  rw [e.1] at h1
  have h2:=List.mem_singleton.1 h1
  have g1:x.ms=[]:=congrArg Tb.ms h2
  have g2:x.us=[]:=congrArg Tb.us h2
  have g3:=(h.ne.mem x hx).1.len
  have g4:=(h.ne.mem x hx).2.1.len
  rw [g1] at g3
  rw [g2] at g4
  have g5:0=x.mn:=g3
  have g6:0=x.un:=g4
  exact ⟨by omega,by omega,fun m hm=>by rw [g1] at hm;cases hm⟩
def zqj:Rw:=⟨128,15,[0,1,5]⟩
theorem zml:zd0 zj8=true:=by kernel_rfl
theorem zoz:(zcU (ownB zj8)).1=[zqj]:=by kernel_rfl
theorem zfi:tabs [zqj]=([],[zqi],0):=by kernel_rfl
theorem zsR (w:World) (lo hi:Nat) (A:Option Addr) (n c:Nat) (h:At w lo hi A n zj8) (hh:hi≤w.heap.size) (hn:n≤140737488355328) (hN:zaL w) (hK:zcv w) :
  Calls Tryz.prog 11 #[.slice A n c] w fun e w'=>∃ U:UpP,e = .returned (.tuple #[.agg (updC U),.int .i64 0,.agg (zfw 0 0)])∧UpAt w' w.heap.size w'.heap.size U∧U.up=zsQ∧Below w.heap.size w w':=by
 refine (zjt w lo hi A n c zj8 h hh hn hN hK zqj zoz rfl rfl (by decide)).mono ?_
 rintro e w' ⟨U,o,nc,ns,rfl,hu,ho,hb⟩
 have key:U.up=zsQ∧o=0∧nc=0∧ns=0:=by
  generalize U.up=V at ho
  cases ho with
  | torn h1=>exact absurd (zml.symm.trans h1) (by decide)
  | reset a rest s _ h2=>exact absurd h2.2.2 (by decide)
  | table a rest o _ h2 _ h4 =>
   obtain ⟨_,rfl,rfl⟩:=h2
   rw [zfi] at h4
   exact absurd h4 (by decide)
  | held a rest o _ h2 _ h4 =>
   obtain ⟨_,rfl,rfl⟩:=h2
   rw [zfi] at h4
   exact absurd h4 (by decide)
  | reach a rest o m _ h2 _ h4 _ _ h7 =>
   obtain ⟨_,rfl,rfl⟩:=h2
   rw [zfi] at h7
   exact absurd h7 (by decide)
  | none a rest o m _ h2 _ h4 _ _ _ =>
   obtain ⟨rfl,rfl,rfl⟩:=h2
   rw [zfi] at h4 ⊢
   exact ⟨rfl,h4.symm,rfl,rfl⟩
 obtain ⟨k1,rfl,rfl,rfl⟩:=key
 exact ⟨U,rfl,hu,k1,hb⟩
set_option maxRecDepth 20000 in
set_option maxHeartbeats 4000000 in
theorem zmc (w:World) (hN:zaL w) (hK:zcv w):Calls Tryz.prog 7 #[] w fun e w'=>e = .returned (.bool true)∧Below w.heap.size w w':=by
 have HN:=hide hN
 have HK:=hide hK
 have T0:=hide (zsf w 5 zj8)
 have B0:Hid (Below w.heap.size w (w.alloc (.cells (bvs zj8).toArray 5))):=hide ((Below.refl _ _).alloc (Nat.le_refl _) _)
 have hb9:(bvs zj8).toArray=#[.int .u8 0,.int .u8 0,.int .u8 0,.int .u8 6,.int .u8 128,.int .u8 15,.int .u8 3,.int .u8 0,.int .u8 1,.int .u8 5]:=by kernel_rfl
 rw [hb9] at T0 B0
 clear hN hK hb9
 go_enter Tryz.func7,Tryz.ntmps7
 go_wp2_with fail
 refine (zsR _ _ _ (some ⟨w.heap.size,0,none⟩) 10 10 T0.out (by simp) (by decide) (HN.out.below B0.out) (HK.out.below B0.out)).mono ?_
 rintro e w1 ⟨U,rfl,hu1,hup1,hb1⟩
 have UOB:=hu1.ob
 have U1:=hide hu1
 have UP:=hide hup1
 have W1:=hide (zaa B0.out hb1 (by simp))
 have e1:(w1.alloc (.cells zUpd 33)).heap.size=w1.heap.size+1:=by simp
 have M0:=Blk.new (w1.alloc (.cells zUpd 33)) 41 zfJ
 rw [e1] at M0
 have NEWU:=hide ((Blk.new w1 33 zUpd).alloc (.cells zfJ 41))
 have NEWN:=hide M0
 have W2:Hid (Below w1.heap.size w1 ((w1.alloc (.cells zUpd 33)).alloc (.cells zfJ 41))):=hide (((Below.refl _ _).alloc (Nat.le_refl _) _).alloc (by rw [e1];omega) _)
 clear hu1 hup1 hb1 T0 B0 M0 e1
 go_wp2_with (refine zas rfl (.tmp 1) (.tmp 12) rfl w1.heap.size rfl U rfl UOB NEWU.out rfl ?_;intro w2 hb2 hg2;have K2:=hide hb2;have HG2:=hide hg2;have N2:=hide (NEWN.out.grown hg2 (by simp));clear hb2 hg2;refine Hid.out ?_)
 refine hide ?_
 go_wp2_with (refine zaT rfl (.tmp 3) (.tmp 14) rfl (w1.heap.size+1) rfl 0 0 rfl N2.out rfl ?_;intro w3 hb3 hg3;have K3:=hide hb3;have HG3:=hide hg3;have KU3:=hide (K2.out.grown hg3 (by simp));clear hb3 hg3;refine Hid.out ?_)
 refine hide ?_
 have W3:Hid (Below w1.heap.size w1 w3):=hide ((W2.out.grown HG2.out W2.out.size (fun k hk=>by injection hk;omega)).grown HG3.out (Nat.le_trans W2.out.size HG2.out.size) (fun k hk=>by injection hk;omega))
 have U3:=hide (U1.out.below W3.out)
 have WW3:=hide (zaa W1.out W3.out (Nat.le_refl _))
 have T3:=hide (zsf w3 5 zmk)
 have B3:Hid (Below w3.heap.size w3 (w3.alloc (.cells (bvs zmk).toArray 5))):=hide ((Below.refl _ _).alloc (Nat.le_refl _) _)
 have hb9:(bvs zmk).toArray=#[.int .u8 0,.int .u8 0,.int .u8 0,.int .u8 3,.int .u8 128,.int .u8 15,.int .u8 0]:=by kernel_rfl
 rw [hb9] at T3 B3
 have HZ3:=hide W3.out.size
 have N3:=hide (HN.out.below (zaa WW3.out B3.out (Nat.le_refl _)))
 have KN3:=hide (HK.out.below (zaa WW3.out B3.out (Nat.le_refl _)))
 clear K2 HG2 N2 HG3 NEWU NEWN W2 W3 U1 hb9
 go_wp2_with fail
 refine (zu5 _ _ _ (some ⟨w3.heap.size,0,none⟩) 7 7 T3.out (by simp) (by decide) N3.out KN3.out).mono ?_
 rintro e w4 ⟨V,rfl,VOB,hb4⟩
 have W4:=hide (zaa B3.out hb4 (by simp))
 have e1:(w4.alloc (.cells zUpd 33)).heap.size=w4.heap.size+1:=by simp
 have M0:=Blk.new (w4.alloc (.cells zUpd 33)) 41 zfJ
 rw [e1] at M0
 have NEWU:=hide ((Blk.new w4 33 zUpd).alloc (.cells zfJ 41))
 have NEWN:=hide M0
 have W5:Hid (Below w4.heap.size w4 ((w4.alloc (.cells zUpd 33)).alloc (.cells zfJ 41))):=hide (((Below.refl _ _).alloc (Nat.le_refl _) _).alloc (by rw [e1];omega) _)
 clear hb4 T3 B3 N3 KN3 M0 e1
 go_wp2_with (refine zas rfl (.tmp 4) (.tmp 18) rfl w4.heap.size rfl V rfl VOB NEWU.out rfl ?_;intro w5 hb5 hg5;have HG5:=hide hg5;have N5:=hide (NEWN.out.grown hg5 (by simp));clear hb5 hg5;refine Hid.out ?_)
 refine hide ?_
 go_wp2_with (refine zaT rfl (.tmp 6) (.tmp 20) rfl (w4.heap.size+1) rfl 3 9 rfl N5.out rfl ?_;intro w6 hb6 hg6;have K6:=hide hb6;have HG6:=hide hg6;clear hb6 hg6;refine Hid.out ?_)
 refine hide ?_
 have W6:Hid (Below w3.heap.size w3 w6):=hide (zaa W4.out ((W5.out.grown HG5.out W5.out.size (fun k hk=>by injection hk;omega)).grown HG6.out (Nat.le_trans W5.out.size HG5.out.size) (fun k hk=>by injection hk;omega)) (Nat.le_refl _))
 have U6:=hide (U3.out.below (W6.out.mono HZ3.out))
 have KU6:=hide (KU3.out.over W6.out)
 have KN6:=hide (K3.out.over W6.out)
 have WW6:=hide (zaa WW3.out W6.out (Nat.le_refl _))
 have RU6:=hide (zak (l:=updL U) KU6.out)
 have HLN:Hid (U.ne.map TbP.tb=[zqi]∧U.re.map TbP.tb=[]∧U.at_.ats=zbY):=hide ⟨congrArg Up.un UP.out,congrArg Up.re UP.out,congrArg Up.at_ UP.out⟩
 have FU:=hide (fit_sm U6.out HLN.out)
 have hz6:w1.heap.size≤w6.heap.size:=Nat.le_trans HZ3.out W6.out.size
 clear HG5 N5 HG6 NEWU NEWN W5 W4 KU3 K3 U3 WW3 VOB
 go_wp2_with ((with_reducible refine zaW ?_ (.tmp 1) rfl w1.heap.size 0 rfl U RU6.out UOB ?_);· rfl)
 refine (zp3 w6 _ _ U U6.out hz6 FU.out (HN.out.below WW6.out) (HK.out.below WW6.out)).mono ?_
 rw [UP.out]
 unfold zkV
 rw [zsT,zsS]
 rintro e w7 ⟨v7,rfl,ho7,hb7⟩
 obtain ⟨A7,c7,rfl,_,_⟩:=zad ho7
 have T7:=hide (At.own ho7)
 have KU7:=hide (KU6.out.over hb7)
 have KN7:=hide (KN6.out.over hb7)
 have KM7:=hide (K6.out.over hb7)
 have U7:=hide (U6.out.below (hb7.mono hz6))
 have WW7:=hide (zaa WW6.out hb7 (Nat.le_refl _))
 clear ho7 hb7 KU6 KN6 K6 U6 WW6 RU6 W6
 obtain ⟨P0,rA,rn,rc,re,nA,nn,nc,ne⟩:=U
 have c25:w7.cell? ⟨w1.heap.size,25,none⟩=some (.slice nA nn nc):=by rw [KU7.out.cell];unfold updC;simpa using zfP (u:=⟨P0,rA,rn,rc,re,nA,nn,nc,ne⟩) UOB
 have hnn:nn=1:=by
  have h1:=U7.out.ne.len
  have h2:=congrArg List.length HLN.out.1
  rw [List.length_map] at h2
  exact h1.symm.trans h2
 subst hnn
 obtain ⟨b,o,x,hA,_,_,hx,hat⟩:=U7.out.ne.row.at_ (sz:=21) (k:=0) (fun y hy=>ziY (U7.out.ne.sz y hy)) (show 0<1 by decide)
 have hxt:x.tb=zqi:=by
  have h1:=congrArg (fun l:List Tb=>l[0]?) HLN.out.1
  have hx':ne[0]?=some x:=hx
  simp only [List.getElem?_map,hx',Option.map_some] at h1
  exact Option.some.inj h1
 have hA':nA=some ⟨b,o,none⟩:=hA
 subst hA'
 have x0:w7.cell? ⟨b,o,none⟩=some (.int .i64 4):=by
  have h1:=hat 0 _ (zon x)
  have h2:x.s=4:=congrArg Tb.s hxt
  rw [h2] at h1
  simpa using h1
 have x1:w7.cell? ⟨b,o+1,none⟩=some (.int .i64 5):=by
  have h1:=hat 1 _ (zom x)
  have h2:x.f=5:=congrArg Tb.f hxt
  rw [h2] at h1
  simpa using h1
 have n0:w7.cell? ⟨w1.heap.size+1,0,none⟩=some (.int .i64 0):=KN7.out.cell 0
 have m0:w7.cell? ⟨w4.heap.size+1,0,none⟩=some (.int .i64 3):=KM7.out.cell 0
 have m1:w7.cell? ⟨w4.heap.size+1,1,none⟩=some (.int .i64 9):=KM7.out.cell 1
 clear hat hx hxt hA KU7 KN7 KM7 U7 HLN FU UP
 go_wp2_with (first
  | ((with_reducible refine zkF ?_ (.tmp 74) rfl rfl T7.out ?_);· rfl)
  | ((with_reducible refine ziX ?_ (.tmp 75) (.const (.string ⟨#[0,0,0,6,128,15,3,0,1,5]⟩)) rfl zj8 [0,0,0,6,128,15,3,0,1,5] rfl rfl true (by decide) ?_);· rfl))
 go_ret
 exact ⟨rfl,WW7.out⟩
end
section
open Go.RowKit
structure SfS (w z:World) (lo gb:Nat) (U:UpP) (nc ns:Int):Prop where
 u:Blk z gb 33 (updC U)
 n:Blk z (gb+1) 41 (zfw nc ns)
 a:UpAt z lo gb U
 bl:Below w.heap.size w z
 nm:zaL z
 kn:zcv z
section
variable {w z y:World} {lo gb:Nat} {U:UpP} {nc ns:Int}
theorem SfS.on (h:SfS w z lo gb U nc ns) (hb:Below z.heap.size z y):SfS w y lo gb U nc ns :=
 ⟨h.u.over hb,h.n.over hb,h.a.below (hb.mono (Nat.le_of_lt h.u.lt)),zaa h.bl hb (Nat.le_refl _),h.nm.below hb,h.kn.below hb⟩
theorem SfS.drew (h:SfS w z lo gb U nc ns):SfS w z.drew lo gb U nc ns:=h.on (zai (Below.refl _ _))
theorem SfS.hi (h:SfS w z lo gb U nc ns):gb≤z.heap.size:=Nat.le_of_lt h.u.lt
theorem SfS.rng (h:SfS w z lo gb U nc ns):z.rangeAt gb 0 (updL U):=zak (l:=updL U) h.u
theorem SfS.c24 (h:SfS w z lo gb U nc ns):z.cell? ⟨gb,24,none⟩=some (.slice U.rA U.rn U.rc):=by
 rw [h.u.cell];unfold updC;rw [List.getElem?_toArray];exact zgL h.a.ob
theorem SfS.c25 (h:SfS w z lo gb U nc ns):z.cell? ⟨gb,25,none⟩=some (.slice U.nA U.nn U.nc):=by
 rw [h.u.cell];unfold updC;rw [List.getElem?_toArray];exact zfP h.a.ob
theorem SfS.n0 (h:SfS w z lo gb U nc ns):z.cell? ⟨gb+1,0,none⟩=some (.int .i64 nc):=h.n.cell 0
end
def oneU (A:Option Addr) (c:Nat) (x:TbP):UpP:={ zc0 with nA:=A,nn:=1,nc:=c,ne:=[x] }
theorem zr8 (A:Option Addr) (c:Nat) (x:TbP):Tryz.prog.built 33 [(0,.agg (attC zdo)),(2,.slice A 1 c)]=some (updC (oneU A c x)):=by kernel_rfl
theorem zfD {o:Oper} {a:Act} {w:World} (y z:Operand) (ho:o.op = .build 33 #[(0,y),(2,z)]) (A:Option Addr) (c:Nat) (x:TbP) (hy:a.eval y = .agg (attC zdo)) (hz:a.eval z = .slice A 1 c) :
  (execOp a.eval o).run Tryz.prog w = .ok (.value (.agg (updC (oneU A c x)))) w:=by
 unfold execOp
 simp only [ho,List.map_toArray,List.map_cons,List.map_nil,hy,hz,Sem.run_bind,run_build w _ _ _ (zr8 A c x),Result.andThen_ok,Sem.run_pure]
theorem zfC {o:Oper} {a:Act} {w:World} (x y z:Operand) (ho:o.op = .slice 31 x (some y) (some z) none) {A:Option Addr} {n c k:Nat} (hx:a.eval x = .slice A n c) (hy:a.eval y = .int .i64 (k:Int)) (hz:a.eval z = .int .i64 ((k+1:Nat):Int)) (hk:k<n) (hc:n≤c) :
  (execOp a.eval o).run Tryz.prog w = .ok (.value (.slice (A.map (·.add (k*21))) 1 (c-k))) w:=by
 unfold execOp
 simp only [ho,hx,hy,hz,Option.map_some,Option.map_none,Sem.run_bind,zi1 w 31 53 21 Tryz.underlying31 zow A n c k hk hc,Result.andThen_ok,Sem.run_pure]
theorem zlw {A:Option Addr} {c:Nat} {x:TbP} (h:zaY false x.tb=true):zdA (oneU A c x).up=true:=by
 have e1:(oneU A c x).up=⟨zbY,[],[x.tb]⟩:=rfl
 rw [e1]
 unfold zdA
 have h2:fewT (zaY false) [x.tb]=true:=by unfold fewT;rw [List.all_cons,h];rfl
 show (zbd zbY&&(fewT zcn []&&(fewT (zaY false) [x.tb]&&(decide (0<0)||zb3 zbY zbY))))=true
 rw [h2,zet,zdN]
 rfl
theorem zd9:Fit9 zdo:=⟨Nat.zero_le _,(fun x hx=>by cases hx),Nat.zero_le _,Nat.zero_le _,Nat.zero_le _⟩
def cutU (U:UpP):UpP:={ U with nA:=none,nn:=0,nc:=0,ne:=[] }
theorem zlS {n:Nat} {U:UpP} {o nc:Int} (h:zsp n U.up o nc):zdA (cutU U).up=true:=by
 have e1:(cutU U).up=⟨U.up.at_,U.up.re,[]⟩:=rfl
 rw [e1]
 unfold zdA
 show (zbd U.up.at_&&(fewT zcn U.up.re&&(fewT (zaY false) []&&(decide (0<U.up.re.length)||zb3 U.up.at_ zbY))))=true
 rw [h.at_,h.re]
 by_cases h0:U.up.re.length=0
 ·rw [h.none h0,zdN];simp [fewT]
 ·rw [decide_eq_true (show 0<U.up.re.length by omega)];rfl
set_option maxRecDepth 20000 in
set_option maxHeartbeats 8000000 in
theorem zoh (w:World) (hg:zaL w∧zcv w) (A:Option Addr) (n c:Nat) (bs:List UInt8) (hAt:At w 0 w.heap.size A n bs) (hn:n≤c) (hc:c≤140737488351232) :
  Calls Tryz.prog 4 #[.slice A n c] w fun e w'=>e = .returned (.bool true)∧Below w.heap.size w w':=by
 have H0:=hide hAt
 have HN:=hide hg.1
 have HK:=hide hg.2
 clear hAt hg
 go_enter Tryz.func4,Tryz.ntmps4
 go_wp2_with fail
 refine (zmc w HN.out HK.out).mono ?_
 rintro e w1 ⟨rfl,hb1⟩
 have W1:=hide hb1
 have H1:=hide (H0.out.below hb1)
 clear hb1
 by_cases hl:n≤16384
 ·have hlI:¬ (16384:Int)<(n:Int):=by omega
  go_wp2_with fail
  refine (zol w1 0 w.heap.size A n c bs H1.out W1.out.size (by omega) (HN.out.below W1.out) (HK.out.below W1.out)).mono ?_
  rintro e w2 ⟨U,o,nc,ns,rfl,hu2,hs2,hb2⟩
  have UOB:=hu2.ob
  have U2:=hide hu2
  have SF:=hide hs2
  have FITS:=hide (zqp hu2 hs2 (by omega))
  have W2:=hide (zaa W1.out hb2 (Nat.le_refl _))
  have e1:(w2.alloc (.cells zUpd 33)).heap.size=w2.heap.size+1:=by simp
  have M0:=Blk.new (w2.alloc (.cells zUpd 33)) 41 zfJ
  rw [e1] at M0
  have NEWU:=hide ((Blk.new w2 33 zUpd).alloc (.cells zfJ 41))
  have NEWN:=hide M0
  have W3:Hid (Below w2.heap.size w2 ((w2.alloc (.cells zUpd 33)).alloc (.cells zfJ 41))):=hide (((Below.refl _ _).alloc (Nat.le_refl _) _).alloc (by rw [e1];omega) _)
  obtain ⟨o0,o3,lu,hnote,hem,hgo,_,_,_,_,_,_⟩:=hs2
  have HNT:=hide hnote
  have HEM:=hide hem
  have HGO:=hide hgo
  have hnn:¬ (2:Int)<(U.nn:Int):=by
   have h1:(U.ne.map TbP.tb).length≤2:=lu
   rw [List.length_map,hu2.ne.len] at h1
   omega
  clear hu2 hb2 M0 e1 hnote hem hgo lu
  go_wp2_with (refine zas rfl (.tmp 4) (.tmp 16) rfl w2.heap.size rfl U rfl UOB NEWU.out rfl ?_;intro w3 hb3 hg3;have K3:=hide hb3;have HG3:=hide hg3;have N3:=hide (NEWN.out.grown hg3 (by simp));clear hb3 hg3;refine Hid.out ?_)
  refine hide ?_
  go_wp2_with (refine zaT rfl (.tmp 6) (.tmp 18) rfl (w2.heap.size+1) rfl nc ns rfl N3.out rfl ?_;intro w4 hb4 hg4;have K4:=hide hb4;have HG4:=hide hg4;have KU4:=hide (K3.out.grown hg4 (by simp));clear hb4 hg4;refine Hid.out ?_)
  refine hide ?_
  have W4:Hid (Below w2.heap.size w2 w4):=hide ((W3.out.grown HG3.out W3.out.size (fun k hk=>by injection hk;omega)).grown HG4.out (Nat.le_trans W3.out.size HG3.out.size) (fun k hk=>by injection hk;omega))
  have S4:Hid (SfS w w4 w1.heap.size w2.heap.size U nc ns):=hide ⟨KU4.out,K4.out,U2.out.below W4.out,zaa W2.out W4.out (Nat.le_refl _),(HN.out.below (zaa W2.out W4.out (Nat.le_refl _))),(HK.out.below (zaa W2.out W4.out (Nat.le_refl _)))⟩
  have HGB:=hide W2.out.size
  clear K3 HG3 N3 K4 HG4 KU4 NEWU NEWN W3 W4 U2 W2 W1 H1 H0 HK
  generalize w2.heap.size=gb at *
  generalize w1.heap.size=lo at *
  have c25:=S4.out.c25
  have c24:=S4.out.c24
  have n0:=S4.out.n0
  have h0I:¬ o<0:=by omega
  have h3I:¬ 3<o:=by omega
  by_cases ho:o=3
  ·have hnc:nc=3:=by rw [HNT.out,if_pos ho]
   subst hnc
   subst ho
   have HSU:Hid (zqn U.up zc0.up=true):=hide (by rw [HEM.out rfl];kernel_rfl)
   clear HNT HEM HGO
   go_wp2_with fail
   refine wp_region_held_drew (S:=fun z=>SfS w z lo gb U 3 ns) (by kernel_rfl) S4.out.drew (fun hHeld=>?_)
   refine rgT 0 ?_
   refine rgT 1 ?_
   refine rgV 2 (.agg (updC U)) (fun w' hSw=>zgv (.tmp 4) rfl gb 0 rfl hSw.rng UOB) ?_
   refine zae (i:=3) rfl (by kernel_rfl) (by rfl) (zfh _) (fun w=>by kernel_rfl) ?_
   rintro e w5 ⟨rfl,hb5⟩
   refine ⟨_,rfl,hHeld.on hb5,fun hHeld=>?_⟩
   refine rgN ?_
   refine zae (i:=4) rfl (by kernel_rfl) (by rfl) (zpZ w5 lo gb w5.heap.size w5.heap.size U zc0 hHeld.a (zhS _ _ _) hHeld.hi (Nat.le_refl _) FITS.out.2) (fun w=>by kernel_rfl) ?_
   rw [HSU.out]
   rintro e w6 ⟨rfl,hb6⟩
   refine ⟨_,rfl,hHeld.on hb6,fun hHeld=>?_⟩
   refine rgN ?_
   refine rgT 5 ?_
   refine rgT 6 ?_
   refine rgT 7 ?_
   refine rgK 8 (fun w' hSw=>hSw.n0) ?_
   refine rgT 9 ?_
   refine rgT 10 ?_
   refine rgT 11 ?_
   refine wpAnyH_done (by kernel_rfl) ?_ _
   go_wp2_with fail
   go_ret
   exact ⟨rfl,hHeld.bl⟩
  ·have hnc:nc=0:=by rw [HNT.out,if_neg ho]
   subst hnc
   have ho3:(o==3)=false:=beq_eq_false_iff_ne.2 ho
   clear HNT HEM
   by_cases h2:o=2
   ·have h2b:(o==2)=true:=by rw [h2];rfl
    have hrn:¬ (0:Int)<(U.rn:Int):=by
     have h1:(U.re.map TbP.tb).length=0:=by rw [show U.re.map TbP.tb=U.up.re from rfl,HGO.out h2];rfl
     rw [List.length_map,S4.out.a.re.len] at h1
     omega
    clear HGO ho h2
    go_wp2_with fail
    go_loopw [7] (fun i wr=>∃ k:Nat,k≤U.nn∧i = .int .i64 k∧SfS w wr lo gb U 0 ns) (fun i _=>U.nn-(intOf i).toNat)
    case atStart=>exact ⟨0,Nat.zero_le _,rfl,S4.out⟩
    case round =>
     obtain ⟨k,hk,rfl,hsf⟩:=hrel
     have SW:=hide hsf
     clear hsf c25 c24 n0 S4
     have c25:=SW.out.c25
     by_cases hlt:k<U.nn
     ·have hkl:((k:Nat):Int)<(U.nn:Int):=by omega
      have hkl2:k<U.ne.length:=by rw [SW.out.a.ne.len];exact hlt
      obtain ⟨x,hx⟩:∃ x,U.ne[k]?=some x:=⟨_,List.getElem?_eq_getElem hkl2⟩
      have HX:=hide hx
      have HM:=hide (List.mem_of_getElem? hx)
      have HR:=hide (zlw (A:=U.nA.map (·.add (k*21))) (c:=U.nc-k) (SF.out.un x.tb (List.mem_map_of_mem (f:=TbP.tb) HM.out)))
      have HFU:Hid (FitU (oneU (U.nA.map (·.add (k*21))) (U.nc-k) x)):=hide ⟨fun _=>zd9,(fun y hy=>by cases hy),fun y hy=>by rw [List.mem_singleton.1 hy];exact FITS.out.1.ne x HM.out⟩
      have HNC:=hide (Nat.lt_of_lt_of_le hlt SW.out.a.nc)
      have HNN:=hide SW.out.a.nc
      clear hx hkl2
      go_wp2_with fail
      refine wp_region_held_drew (S:=fun z=>SfS w z lo gb U 0 ns) (by kernel_rfl) SW.out.drew (fun hHeld=>?_)
      refine rgT 1 ?_
      refine rgK 2 (fun w' hSw=>hSw.c25) ?_
      refine rgT 3 ?_
      refine rgT 4 ?_
      refine rgV 5 (.int .i64 ((k+1:Nat):Int)) ?_ ?_
      ·(intro w' hSw;(try dsimp only at hSw);go_simp;exact IntWalk.i64_in _ (by omega))
      refine rgV 6 (.slice (U.nA.map (·.add (k*21))) 1 (U.nc-k)) (fun w' hSw=>zfC (.tmp 69) (.tmp 70) (.tmp 72) rfl rfl rfl rfl hlt HNN.out) ?_
      refine zae (i:=0) rfl (by kernel_rfl) (by rfl) (zeu _) (fun w=>by kernel_rfl) ?_
      rintro e w5 ⟨rfl,hb5⟩
      refine ⟨_,rfl,hHeld.on hb5,fun hHeld=>?_⟩
      refine rgN ?_
      refine rgV 7 (.agg (updC (oneU (U.nA.map (·.add (k*21))) (U.nc-k) x))) (fun w' hSw=>zfD (.tmp 67) (.tmp 73) rfl _ _ x rfl rfl) ?_
      refine zae (i:=8) rfl (by kernel_rfl) (by rfl) (zd5 _ lo gb (oneU (U.nA.map (·.add (k*21))) (U.nc-k) x) ⟨zdn _ _ _,RowE.nil _ _ _ _,zqf hHeld.a.ne HX.out,Nat.le_refl _,(by have:=HNC.out;show 1≤U.nc-k;omega)⟩ hHeld.hi HFU.out hHeld.nm) (fun w=>by kernel_rfl) ?_
      rw [HR.out]
      rintro e w6 ⟨rfl,hb6⟩
      refine ⟨_,rfl,hHeld.on hb6,fun hHeld=>?_⟩
      refine rgN ?_
      refine rgT 9 ?_
      refine wpAnyH_done (by kernel_rfl) ?_ _
      have SX:=hide hHeld
      clear hHeld
      go_wp2_with fail
      go_roundw
      case rel=>exact ⟨k+1,by omega,by go_num,SX.out⟩
      case measure=>simp [intOf];omega
     ·obtain rfl:k=U.nn:=by omega
      have f25:=SW.out.u.frozen 25
      have h1:=SW.out.u.set_ 25 (.slice none 0 0)
      rw [zf6 (U:=U) UOB none 0 0 []] at h1
      have KZ:Hid (Blk (wr.setCell ⟨gb,25,none⟩ (.slice none 0 0)) gb 33 (updC (cutU U))):=hide h1
      have BZ:Hid (Below gb wr (wr.setCell ⟨gb,25,none⟩ (.slice none 0 0))):=hide (zbB (Below.refl _ _) (p:=⟨gb,25,none⟩) (Nat.le_refl _) _)
      have WZ:Hid (Below w.heap.size w (wr.setCell ⟨gb,25,none⟩ (.slice none 0 0))):=hide (zbB SW.out.bl (p:=⟨gb,25,none⟩) HGB.out _)
      have AZ:Hid (UpAt (wr.setCell ⟨gb,25,none⟩ (.slice none 0 0)) lo gb (cutU U)):=hide ⟨SW.out.a.at_.below BZ.out,(SW.out.a.below BZ.out).re,RowE.nil _ _ _ _,SW.out.a.rc,Nat.le_refl _⟩
      have NZ:=hide (HN.out.below WZ.out)
      have HR:=hide (zlS SF.out)
      have HFU:Hid (FitU (cutU U)):=hide ⟨FITS.out.1.at_,FITS.out.1.re,fun y hy=>by cases hy⟩
      have RZ:=hide (zak (l:=updL (cutU U)) KZ.out)
      have HH:=hide (show gb≤(wr.setCell ⟨gb,25,none⟩ (.slice none 0 0)).heap.size from Nat.le_of_lt KZ.out.lt)
      have CUOB:(cutU U).at_.ob.length=16:=UOB
      clear h1
      go_wp2_with ((with_reducible refine zaW ?_ (.tmp 4) rfl gb 0 rfl (cutU U) RZ.out CUOB ?_);· rfl)
      refine (zd5 _ lo gb (cutU U) AZ.out HH.out HFU.out NZ.out).mono ?_
      rw [HR.out]
      rintro e w7 ⟨rfl,hb7⟩
      have W7:=hide (zaa WZ.out hb7 (Nat.le_refl _))
      clear hb7
      go_wp2_with fail
      refine (zeu w7).mono ?_
      rintro e w8 ⟨rfl,hb8⟩
      have W8:=hide (zaa W7.out hb8 (Nat.le_refl _))
      clear hb8
      go_wp2_with fail
      refine (zhg w8).mono ?_
      rintro e w9 ⟨rfl,hb9⟩
      have W9:=hide (zaa W8.out hb9 (Nat.le_refl _))
      clear hb9
      go_wp2_with fail
      refine (zhf w9 0 0 0 0 zdo zdo (zdn w9 0 0) (zdn w9 0 0) (Nat.zero_le _) (Nat.zero_le _) zd9 zd9).mono ?_
      rw [zko,zdN]
      rintro e w10 ⟨rfl,hb10⟩
      have W10:=hide (zaa W9.out hb10 (Nat.le_refl _))
      clear hb10
      go_wp2
      go_ret
      exact ⟨rfl,W10.out⟩
   ·have h2b:(o==2)=false:=beq_eq_false_iff_ne.2 h2
    clear HGO ho h2
    go_wp2_with fail
    go_loopw [7] (fun i wr=>∃ k:Nat,k≤U.nn∧i = .int .i64 k∧SfS w wr lo gb U 0 ns) (fun i _=>U.nn-(intOf i).toNat)
    case atStart=>exact ⟨0,Nat.zero_le _,rfl,S4.out⟩
    case round =>
     obtain ⟨k,hk,rfl,hsf⟩:=hrel
     have SW:=hide hsf
     clear hsf c25 c24 n0 S4
     have c25:=SW.out.c25
     by_cases hlt:k<U.nn
     ·have hkl:((k:Nat):Int)<(U.nn:Int):=by omega
      have hkl2:k<U.ne.length:=by rw [SW.out.a.ne.len];exact hlt
      obtain ⟨x,hx⟩:∃ x,U.ne[k]?=some x:=⟨_,List.getElem?_eq_getElem hkl2⟩
      have HX:=hide hx
      have HM:=hide (List.mem_of_getElem? hx)
      have HR:=hide (zlw (A:=U.nA.map (·.add (k*21))) (c:=U.nc-k) (SF.out.un x.tb (List.mem_map_of_mem (f:=TbP.tb) HM.out)))
      have HFU:Hid (FitU (oneU (U.nA.map (·.add (k*21))) (U.nc-k) x)):=hide ⟨fun _=>zd9,(fun y hy=>by cases hy),fun y hy=>by rw [List.mem_singleton.1 hy];exact FITS.out.1.ne x HM.out⟩
      have HNC:=hide (Nat.lt_of_lt_of_le hlt SW.out.a.nc)
      have HNN:=hide SW.out.a.nc
      clear hx hkl2
      go_wp2_with fail
      refine wp_region_held_drew (S:=fun z=>SfS w z lo gb U 0 ns) (by kernel_rfl) SW.out.drew (fun hHeld=>?_)
      refine rgT 1 ?_
      refine rgK 2 (fun w' hSw=>hSw.c25) ?_
      refine rgT 3 ?_
      refine rgT 4 ?_
      refine rgV 5 (.int .i64 ((k+1:Nat):Int)) ?_ ?_
      ·(intro w' hSw;(try dsimp only at hSw);go_simp;exact IntWalk.i64_in _ (by omega))
      refine rgV 6 (.slice (U.nA.map (·.add (k*21))) 1 (U.nc-k)) (fun w' hSw=>zfC (.tmp 69) (.tmp 70) (.tmp 72) rfl rfl rfl rfl hlt HNN.out) ?_
      refine zae (i:=0) rfl (by kernel_rfl) (by rfl) (zeu _) (fun w=>by kernel_rfl) ?_
      rintro e w5 ⟨rfl,hb5⟩
      refine ⟨_,rfl,hHeld.on hb5,fun hHeld=>?_⟩
      refine rgN ?_
      refine rgV 7 (.agg (updC (oneU (U.nA.map (·.add (k*21))) (U.nc-k) x))) (fun w' hSw=>zfD (.tmp 67) (.tmp 73) rfl _ _ x rfl rfl) ?_
      refine zae (i:=8) rfl (by kernel_rfl) (by rfl) (zd5 _ lo gb (oneU (U.nA.map (·.add (k*21))) (U.nc-k) x) ⟨zdn _ _ _,RowE.nil _ _ _ _,zqf hHeld.a.ne HX.out,Nat.le_refl _,(by have:=HNC.out;show 1≤U.nc-k;omega)⟩ hHeld.hi HFU.out hHeld.nm) (fun w=>by kernel_rfl) ?_
      rw [HR.out]
      rintro e w6 ⟨rfl,hb6⟩
      refine ⟨_,rfl,hHeld.on hb6,fun hHeld=>?_⟩
      refine rgN ?_
      refine rgT 9 ?_
      refine wpAnyH_done (by kernel_rfl) ?_ _
      have SX:=hide hHeld
      clear hHeld
      go_wp2_with fail
      go_roundw
      case rel=>exact ⟨k+1,by omega,by go_num,SX.out⟩
      case measure=>simp [intOf];omega
     ·obtain rfl:k=U.nn:=by omega
      have f25:=SW.out.u.frozen 25
      have h1:=SW.out.u.set_ 25 (.slice none 0 0)
      rw [zf6 (U:=U) UOB none 0 0 []] at h1
      have KZ:Hid (Blk (wr.setCell ⟨gb,25,none⟩ (.slice none 0 0)) gb 33 (updC (cutU U))):=hide h1
      have BZ:Hid (Below gb wr (wr.setCell ⟨gb,25,none⟩ (.slice none 0 0))):=hide (zbB (Below.refl _ _) (p:=⟨gb,25,none⟩) (Nat.le_refl _) _)
      have WZ:Hid (Below w.heap.size w (wr.setCell ⟨gb,25,none⟩ (.slice none 0 0))):=hide (zbB SW.out.bl (p:=⟨gb,25,none⟩) HGB.out _)
      have AZ:Hid (UpAt (wr.setCell ⟨gb,25,none⟩ (.slice none 0 0)) lo gb (cutU U)):=hide ⟨SW.out.a.at_.below BZ.out,(SW.out.a.below BZ.out).re,RowE.nil _ _ _ _,SW.out.a.rc,Nat.le_refl _⟩
      have NZ:=hide (HN.out.below WZ.out)
      have HR:=hide (zlS SF.out)
      have HFU:Hid (FitU (cutU U)):=hide ⟨FITS.out.1.at_,FITS.out.1.re,fun y hy=>by cases hy⟩
      have RZ:=hide (zak (l:=updL (cutU U)) KZ.out)
      have HH:=hide (show gb≤(wr.setCell ⟨gb,25,none⟩ (.slice none 0 0)).heap.size from Nat.le_of_lt KZ.out.lt)
      have CUOB:(cutU U).at_.ob.length=16:=UOB
      clear h1
      go_wp2_with ((with_reducible refine zaW ?_ (.tmp 4) rfl gb 0 rfl (cutU U) RZ.out CUOB ?_);· rfl)
      refine (zd5 _ lo gb (cutU U) AZ.out HH.out HFU.out NZ.out).mono ?_
      rw [HR.out]
      rintro e w7 ⟨rfl,hb7⟩
      have W7:=hide (zaa WZ.out hb7 (Nat.le_refl _))
      clear hb7
      go_wp2_with fail
      refine (zeu w7).mono ?_
      rintro e w8 ⟨rfl,hb8⟩
      have W8:=hide (zaa W7.out hb8 (Nat.le_refl _))
      clear hb8
      go_wp2_with fail
      refine (zhg w8).mono ?_
      rintro e w9 ⟨rfl,hb9⟩
      have W9:=hide (zaa W8.out hb9 (Nat.le_refl _))
      clear hb9
      go_wp2_with fail
      refine (zhf w9 0 0 0 0 zdo zdo (zdn w9 0 0) (zdn w9 0 0) (Nat.zero_le _) (Nat.zero_le _) zd9 zd9).mono ?_
      rw [zko,zdN]
      rintro e w10 ⟨rfl,hb10⟩
      have W10:=hide (zaa W9.out hb10 (Nat.le_refl _))
      clear hb10
      go_wp2
      go_ret
      exact ⟨rfl,W10.out⟩
 ·have hlI:(16384:Int)<(n:Int):=by omega
  go_wp2
  go_ret
  exact ⟨rfl,W1.out⟩
end
end Go.Proofs.YtookpplebikfnaaGreatDoor
