/-
  The small case of layer 10's statements comes out right. The one condition: the tables hold what their texts lay.
  UpdateHeld, walked: it returns true, whatever comes in that fits memory.
-/
import Derived.Test.YtookpplebikfnaaGreatDoorKHBO
set_option linter.unusedVariables false
set_option linter.unusedSimpArgs false
namespace Go.Proofs.YtookpplebikfnaaGreatDoor
section
open Go.RowKit
def zqI:Tb:=⟨4,5,0,zay,[],[]⟩
def ztt:Up:=⟨zci,[],[zqI]⟩
def zkn:List UInt8:=[0,0,0,6,128,15,3,0,1,5]
def zmD:List UInt8:=[0,0,0,3,128,15,0]
def zvI:Rw:=⟨128,15,[]⟩
theorem ztw:zel ztt=0:=by kernel_rfl
theorem ztv:zg6 ztt=zkn:=by kernel_rfl
theorem zoY:zdI zmD=true:=by kernel_rfl
theorem zqK:(zcy (ownB zmD)).1=[zvI]:=by kernel_rfl
theorem zit:tabs [zvI]=([],[],3):=by kernel_rfl
theorem zsU (w:World) (t:TypeId) (bs:List UInt8):At (w.alloc (.cells (bvs bs).toArray t)) w.heap.size (w.heap.size+1) (some ⟨w.heap.size,0,none⟩) bs.length bs:=by
 have hB:=Blk.new w t (bvs bs).toArray
 exact ⟨rfl,fun _=>⟨_,0,rfl,Nat.le_refl _,by omega,fun j u hu=>by rw [Nat.zero_add,hB.cell];simp [bvs,hu]⟩⟩
theorem zvJ (w:World) (lo hi:Nat) (A:Option Addr) (n c:Nat) (h:At w lo hi A n zmD) (hh:hi≤w.heap.size) (hn:n≤140737488355328) (hN:zaM w) (hK:zdd w) :
  Calls Tryz.prog 11 #[.slice A n c] w fun e w'=>∃ U:UpP,e = .returned (.tuple #[.agg (updC U),.int .i64 3,.agg (zf5 3 9)])∧U.at_.ob.length=16∧Below w.heap.size w w':=by
 refine (zjH w lo hi A n c zmD h hh hn hN hK zvI zqK rfl rfl (by decide)).mono ?_
 ·rintro e w' ⟨U,o,nc,ns,rfl,hu,ho,hb⟩
  have key:o=3∧nc=3∧ns=9:=by
   generalize U.up=V at ho
   cases ho with
   | torn h1=>exact absurd (zoY.symm.trans h1) (by decide)
   | reset a rest s _ h2=>exact absurd h2.2.2 (by decide)
   | table a rest o _ h2 _ h4=>exact ⟨rfl,rfl,rfl⟩
   | held a rest o _ h2 _ h4 =>
    obtain ⟨_,rfl,rfl⟩:=h2
    rw [zit] at h4
    exact absurd h4 (by decide)
   | reach a rest o m _ h2 _ h4 h5 _ _ =>
    obtain ⟨_,rfl,rfl⟩:=h2
    rw [zit] at h4
    exact absurd h4.symm h5
   | none a rest o m _ h2 _ h4 h5 _ _ =>
    obtain ⟨_,rfl,rfl⟩:=h2
    rw [zit] at h4
    exact absurd h4.symm h5
  obtain ⟨rfl,rfl,rfl⟩:=key
  exact ⟨U,rfl,hu.ob,hb⟩
theorem zus {p:AtP} {w:World} {lo hi:Nat} (h:zar w lo hi p) (e:p.ats=zci):Fit9 p:=by
 have e1:(p.path.map SgP.sg).length=0:=congrArg (fun a:Ats=>a.path.length) e
 have e2:p.cl.length=0:=congrArg (fun a:Ats=>a.cl.length) e
 have e3:p.ex.length=0:=congrArg (fun a:Ats=>a.ex.length) e
 have e4:(p.tl.map TnP.tun).length=0:=congrArg (fun a:Ats=>a.tn.length) e
 rw [List.length_map] at e1 e4
 have a1:=h.path.len
 have a2:=h.cl.len
 have a3:=h.ex.len
 have a4:=h.tl.len
 refine ⟨by omega,fun x hx=>?_,by omega,by omega,by omega⟩
 rw [List.eq_nil_of_length_eq_zero e1] at hx
 cases hx
theorem fit_sm {w:World} {lo hi:Nat} {U:UpP} (h:UpAt w lo hi U) (e:U.ne.map TbP.tb=[zqI]∧U.re.map TbP.tb=[]∧U.at_.ats=zci):FitU U:=by
 refine ⟨fun _=>zus h.at_ e.2.2,fun x hx=>?_,fun x hx=>?_⟩
 ·have h1:x.tb∈U.re.map TbP.tb:=List.mem_map.2 ⟨x,hx,rfl⟩
  rw [e.2.1] at h1
  cases h1
 ·have h1:x.tb∈U.ne.map TbP.tb:=List.mem_map.2 ⟨x,hx,rfl⟩
  rw [e.1] at h1
  have h2:=List.mem_singleton.1 h1
  have g1:x.ms=[]:=congrArg Tb.ms h2
  have g2:x.us=[]:=congrArg Tb.us h2
  have g3:=(h.ne.mem x hx).1.len
  have g4:=(h.ne.mem x hx).2.1.len
  rw [g1] at g3
  rw [g2] at g4
  have g5:0=x.mn:=g3
  have g6:0=x.un:=g4
  exact ⟨by omega,by omega,fun m hm=>by rw [g1] at hm;cases hm⟩
def zqJ:Rw:=⟨128,15,[0,1,5]⟩
theorem zmE:zdI zkn=true:=by kernel_rfl
theorem zoX:(zcy (ownB zkn)).1=[zqJ]:=by kernel_rfl
theorem zfq:tabs [zqJ]=([],[zqI],0):=by kernel_rfl
theorem ztu (w:World) (lo hi:Nat) (A:Option Addr) (n c:Nat) (h:At w lo hi A n zkn) (hh:hi≤w.heap.size) (hn:n≤140737488355328) (hN:zaM w) (hK:zdd w) :
  Calls Tryz.prog 11 #[.slice A n c] w fun e w'=>∃ U:UpP,e = .returned (.tuple #[.agg (updC U),.int .i64 0,.agg (zf5 0 0)])∧UpAt w' w.heap.size w'.heap.size U∧U.up=ztt∧Below w.heap.size w w':=by
 refine (zjH w lo hi A n c zkn h hh hn hN hK zqJ zoX rfl rfl (by decide)).mono ?_
 rintro e w' ⟨U,o,nc,ns,rfl,hu,ho,hb⟩
 have key:U.up=ztt∧o=0∧nc=0∧ns=0:=by
  generalize U.up=V at ho
  cases ho with
  | torn h1=>exact absurd (zmE.symm.trans h1) (by decide)
  | reset a rest s _ h2=>exact absurd h2.2.2 (by decide)
  | table a rest o _ h2 _ h4 =>
   obtain ⟨_,rfl,rfl⟩:=h2
   rw [zfq] at h4
   exact absurd h4 (by decide)
  | held a rest o _ h2 _ h4 =>
   obtain ⟨_,rfl,rfl⟩:=h2
   rw [zfq] at h4
   exact absurd h4 (by decide)
  | reach a rest o m _ h2 _ h4 _ _ h7 =>
   obtain ⟨_,rfl,rfl⟩:=h2
   rw [zfq] at h7
   exact absurd h7 (by decide)
  | none a rest o m _ h2 _ h4 _ _ _ =>
   obtain ⟨rfl,rfl,rfl⟩:=h2
   rw [zfq] at h4 ⊢
   exact ⟨rfl,h4.symm,rfl,rfl⟩
 obtain ⟨k1,rfl,rfl,rfl⟩:=key
 exact ⟨U,rfl,hu,k1,hb⟩
set_option maxRecDepth 20000 in
set_option maxHeartbeats 4000000 in
theorem zmw (w:World) (hN:zaM w) (hK:zdd w):Calls Tryz.prog 7 #[] w fun e w'=>e = .returned (.bool true)∧Below w.heap.size w w':=by
 have HN:=hide hN
 have HK:=hide hK
 have T0:=hide (zsU w 5 zkn)
 have B0:Hid (Below w.heap.size w (w.alloc (.cells (bvs zkn).toArray 5))):=hide ((Below.refl _ _).alloc (Nat.le_refl _) _)
 have hb9:(bvs zkn).toArray=#[.int .u8 0,.int .u8 0,.int .u8 0,.int .u8 6,.int .u8 128,.int .u8 15,.int .u8 3,.int .u8 0,.int .u8 1,.int .u8 5]:=by kernel_rfl
 rw [hb9] at T0 B0
 clear hN hK hb9
 go_enter Tryz.func7,Tryz.ntmps7
 go_wp2_with fail
 refine (ztu _ _ _ (some ⟨w.heap.size,0,none⟩) 10 10 T0.out (by simp) (by decide) (HN.out.below B0.out) (HK.out.below B0.out)).mono ?_
 rintro e w1 ⟨U,rfl,hu1,hup1,hb1⟩
 have UOB:=hu1.ob
 have U1:=hide hu1
 have UP:=hide hup1
 have W1:=hide (zaa B0.out hb1 (by simp))
 have e1:(w1.alloc (.cells zUpd 33)).heap.size=w1.heap.size+1:=by simp
 have M0:=Blk.new (w1.alloc (.cells zUpd 33)) 41 zfS
 rw [e1] at M0
 have NEWU:=hide ((Blk.new w1 33 zUpd).alloc (.cells zfS 41))
 have NEWN:=hide M0
 have W2:Hid (Below w1.heap.size w1 ((w1.alloc (.cells zUpd 33)).alloc (.cells zfS 41))):=hide (((Below.refl _ _).alloc (Nat.le_refl _) _).alloc (by rw [e1];omega) _)
 clear hu1 hup1 hb1 T0 B0 M0 e1
 go_wp2_with (refine zau rfl (.tmp 1) (.tmp 12) rfl w1.heap.size rfl U rfl UOB NEWU.out rfl ?_;intro w2 hb2 hg2;have K2:=hide hb2;have HG2:=hide hg2;have N2:=hide (NEWN.out.grown hg2 (by simp));clear hb2 hg2;refine Hid.out ?_)
 refine hide ?_
 go_wp2_with (refine zaS rfl (.tmp 3) (.tmp 14) rfl (w1.heap.size+1) rfl 0 0 rfl N2.out rfl ?_;intro w3 hb3 hg3;have K3:=hide hb3;have HG3:=hide hg3;have KU3:=hide (K2.out.grown hg3 (by simp));clear hb3 hg3;refine Hid.out ?_)
 refine hide ?_
 have W3:Hid (Below w1.heap.size w1 w3):=hide ((W2.out.grown HG2.out W2.out.size (fun k hk=>by injection hk;omega)).grown HG3.out (Nat.le_trans W2.out.size HG2.out.size) (fun k hk=>by injection hk;omega))
 have U3:=hide (U1.out.below W3.out)
 have WW3:=hide (zaa W1.out W3.out (Nat.le_refl _))
 have T3:=hide (zsU w3 5 zmD)
 have B3:Hid (Below w3.heap.size w3 (w3.alloc (.cells (bvs zmD).toArray 5))):=hide ((Below.refl _ _).alloc (Nat.le_refl _) _)
 have hb9:(bvs zmD).toArray=#[.int .u8 0,.int .u8 0,.int .u8 0,.int .u8 3,.int .u8 128,.int .u8 15,.int .u8 0]:=by kernel_rfl
 rw [hb9] at T3 B3
 have HZ3:=hide W3.out.size
 have N3:=hide (HN.out.below (zaa WW3.out B3.out (Nat.le_refl _)))
 have KN3:=hide (HK.out.below (zaa WW3.out B3.out (Nat.le_refl _)))
 clear K2 HG2 N2 HG3 NEWU NEWN W2 W3 U1 hb9
 go_wp2_with fail
 refine (zvJ _ _ _ (some ⟨w3.heap.size,0,none⟩) 7 7 T3.out (by simp) (by decide) N3.out KN3.out).mono ?_
 rintro e w4 ⟨V,rfl,VOB,hb4⟩
 have W4:=hide (zaa B3.out hb4 (by simp))
 have e1:(w4.alloc (.cells zUpd 33)).heap.size=w4.heap.size+1:=by simp
 have M0:=Blk.new (w4.alloc (.cells zUpd 33)) 41 zfS
 rw [e1] at M0
 have NEWU:=hide ((Blk.new w4 33 zUpd).alloc (.cells zfS 41))
 have NEWN:=hide M0
 have W5:Hid (Below w4.heap.size w4 ((w4.alloc (.cells zUpd 33)).alloc (.cells zfS 41))):=hide (((Below.refl _ _).alloc (Nat.le_refl _) _).alloc (by rw [e1];omega) _)
 clear hb4 T3 B3 N3 KN3 M0 e1
 go_wp2_with (refine zau rfl (.tmp 4) (.tmp 18) rfl w4.heap.size rfl V rfl VOB NEWU.out rfl ?_;intro w5 hb5 hg5;have HG5:=hide hg5;have N5:=hide (NEWN.out.grown hg5 (by simp));clear hb5 hg5;refine Hid.out ?_)
 refine hide ?_
 go_wp2_with (refine zaS rfl (.tmp 6) (.tmp 20) rfl (w4.heap.size+1) rfl 3 9 rfl N5.out rfl ?_;intro w6 hb6 hg6;have K6:=hide hb6;have HG6:=hide hg6;clear hb6 hg6;refine Hid.out ?_)
 refine hide ?_
 have W6:Hid (Below w3.heap.size w3 w6):=hide (zaa W4.out ((W5.out.grown HG5.out W5.out.size (fun k hk=>by injection hk;omega)).grown HG6.out (Nat.le_trans W5.out.size HG5.out.size) (fun k hk=>by injection hk;omega)) (Nat.le_refl _))
 have U6:=hide (U3.out.below (W6.out.mono HZ3.out))
 have KU6:=hide (KU3.out.over W6.out)
 have KN6:=hide (K3.out.over W6.out)
 have WW6:=hide (zaa WW3.out W6.out (Nat.le_refl _))
 have RU6:=hide (zaj (l:=updL U) KU6.out)
 have HLN:Hid (U.ne.map TbP.tb=[zqI]∧U.re.map TbP.tb=[]∧U.at_.ats=zci):=hide ⟨congrArg Up.un UP.out,congrArg Up.re UP.out,congrArg Up.at_ UP.out⟩
 have FU:=hide (fit_sm U6.out HLN.out)
 have hz6:w1.heap.size≤w6.heap.size:=Nat.le_trans HZ3.out W6.out.size
 clear HG5 N5 HG6 NEWU NEWN W5 W4 KU3 K3 U3 WW3 VOB
 go_wp2_with ((with_reducible refine zaV ?_ (.tmp 1) rfl w1.heap.size 0 rfl U RU6.out UOB ?_);· rfl)
 refine (zll w6 _ _ U U6.out hz6 FU.out (HN.out.below WW6.out) (HK.out.below WW6.out)).mono ?_
 rw [UP.out]
 unfold zh6
 rw [ztw,ztv]
 rintro e w7 ⟨v7,rfl,ho7,hb7⟩
 obtain ⟨A7,c7,rfl,_,_⟩:=zac ho7
 have T7:=hide (At.own ho7)
 have KU7:=hide (KU6.out.over hb7)
 have KN7:=hide (KN6.out.over hb7)
 have KM7:=hide (K6.out.over hb7)
 have U7:=hide (U6.out.below (hb7.mono hz6))
 have WW7:=hide (zaa WW6.out hb7 (Nat.le_refl _))
 clear ho7 hb7 KU6 KN6 K6 U6 WW6 RU6 W6
 obtain ⟨P0,rA,rn,rc,re,nA,nn,nc,ne⟩:=U
 have c25:w7.cell? ⟨w1.heap.size,25,none⟩=some (.slice nA nn nc):=by rw [KU7.out.cell];unfold updC;simpa using zeY (u:=⟨P0,rA,rn,rc,re,nA,nn,nc,ne⟩) UOB
 have hnn:nn=1:=by
  have h1:=U7.out.ne.len
  have h2:=congrArg List.length HLN.out.1
  rw [List.length_map] at h2
  exact h1.symm.trans h2
 subst hnn
 obtain ⟨b,o,x,hA,_,_,hx,hat⟩:=U7.out.ne.row.at_ (sz:=21) (k:=0) (fun y hy=>zgm (U7.out.ne.sz y hy)) (show 0<1 by decide)
 have hxt:x.tb=zqI:=by
  have h1:=congrArg (fun l:List Tb=>l[0]?) HLN.out.1
  have hx':ne[0]?=some x:=hx
  simp only [List.getElem?_map,hx',Option.map_some] at h1
  exact Option.some.inj h1
 have hA':nA=some ⟨b,o,none⟩:=hA
 subst hA'
 have x0:w7.cell? ⟨b,o,none⟩=some (.int .i64 4):=by
  have h1:=hat 0 _ (zoL x)
  have h2:x.s=4:=congrArg Tb.s hxt
  rw [h2] at h1
  simpa using h1
 have x1:w7.cell? ⟨b,o+1,none⟩=some (.int .i64 5):=by
  have h1:=hat 1 _ (zoK x)
  have h2:x.f=5:=congrArg Tb.f hxt
  rw [h2] at h1
  simpa using h1
 have n0:w7.cell? ⟨w1.heap.size+1,0,none⟩=some (.int .i64 0):=KN7.out.cell 0
 have m0:w7.cell? ⟨w4.heap.size+1,0,none⟩=some (.int .i64 3):=KM7.out.cell 0
 have m1:w7.cell? ⟨w4.heap.size+1,1,none⟩=some (.int .i64 9):=KM7.out.cell 1
 clear hat hx hxt hA KU7 KN7 KM7 U7 HLN FU UP
 go_wp2_with (first
  | ((with_reducible refine zkX ?_ (.tmp 74) rfl rfl T7.out ?_);· rfl)
  | ((with_reducible refine zjf ?_ (.tmp 75) (.const (.string ⟨#[0,0,0,6,128,15,3,0,1,5]⟩)) rfl zkn [0,0,0,6,128,15,3,0,1,5] rfl rfl true (by decide) ?_);· rfl))
 go_ret
 exact ⟨rfl,WW7.out⟩
end
section
open Go.RowKit
theorem zt3 {w:World} {base g n cap:Nat} {e:TypeId} {bs:List UInt8} (h:w.ownsRow base e 1 (.slice (some ⟨g,0,none⟩) n cap) n (bvs bs)) (k:Nat) (u:UInt8) :
  (w.setCell ⟨g,k,none⟩ (.int .u8 (u.toNat:Int))).ownsRow base e 1 (.slice (some ⟨g,0,none⟩) n cap) n (bvs (bs.set k u)):=by
 rcases h.2 with ⟨h',_⟩ | ⟨g',cap',cur,h',hb,hg,h1,h2,h3,htake⟩
 ·simp at h'
 ·simp only [Value.slice.injEq,Option.some.injEq,Addr.mk.injEq,and_true,true_and] at h'
  obtain ⟨rfl,rfl⟩:=h'
  have hb2:Blk (w.setCell ⟨g,k,none⟩ (.int .u8 (u.toNat:Int))) g e (cur.setIfInBounds k (.int .u8 (u.toNat:Int))):=Blk.set_ (t:=e) (cs:=cur) hg k _
  refine ⟨by have:=h.1;simpa [bvs] using this,.inr ⟨g,cap,cur.setIfInBounds k (.int .u8 (u.toNat:Int)),rfl,hb,hb2,h1,h2,by simpa using h3,?_⟩⟩
  rw [Array.toList_setIfInBounds,List.take_set,htake]
  simp [bvs,bv,List.map_set]
theorem zrw {w:World} {base n c:Nat} {A:Option Addr} {e:TypeId} {bs:List UInt8} (h:w.ownsRow base e 1 (.slice A n c) n (bvs bs)) (hn:0<n) :
  ∃ g,A=some ⟨g,0,none⟩∧base≤g∧g<w.heap.size∧(∀ i,w.frozen? ⟨g,i,none⟩=false)∧∀ j u,bs[j]?=some u→w.cell? ⟨g,j,none⟩=some (bv u):=by
 obtain ⟨g,hA,hb,hl,hfr⟩:∃ g,A=some ⟨g,0,none⟩∧base≤g∧g<w.heap.size∧∀ i,w.frozen? ⟨g,i,none⟩=false:=by
  rcases h.2 with ⟨h',h0⟩ | ⟨g',cap',cur,h',hb,hg,h1,h2,h3,htake⟩
  ·omega
  ·have hbk:Blk w g' e cur:=hg
   injection h' with h' _ _
   exact ⟨g',h',hb,hbk.lt,hbk.frozen⟩
 obtain ⟨b,o,hA2,_,_,hc⟩:=(At.own h).2 hn
 rw [hA] at hA2
 injection hA2 with hA2
 injection hA2 with e1 e2 _
 subst e1 e2
 exact ⟨g,hA,hb,hl,hfr,fun j u hu=>by have:=hc j u hu;rw [Nat.zero_add] at this;exact this⟩
theorem zd8 {o:Oper} {a:Act} {w:World} (x:Operand) (ho:o.op = .buildSlice 31 1 #[(0,x)]) (t:TbP) (ex:a.eval x = .agg (tbC t)) (hl:t.nb.length=16) :
  (execOp a.eval o).run Tryz.prog w = .ok (.value (.slice (some ⟨w.heap.size,0,none⟩) 1 1)) (w.alloc (.cells (tbC t) 53)):=by
 obtain ⟨z,hz,hz2⟩:=znN
 have h:=zbN (P:=Tryz.prog) w 31 53 (tbC t) z Tryz.underlying31 (fun w=>Tryz.sizeOf53 w) hz2 hz (zgn hl) (by decide) (by decide)
 unfold execOp
 simp only [ho,List.map_toArray,List.map_cons,List.map_nil,ex,h,Sem.run_bind,Result.andThen_ok,Sem.run_pure]
def gonU (A:Option Addr) (n c:Nat) (xs:List TbP):UpP:={ zdv with nA:=A,nn:=n,nc:=c,ne:=xs }
theorem zsG (A:Option Addr) (n c:Nat) (xs:List TbP):Tryz.prog.built 33 [(0,.agg (attC zeB)),(2,.slice A n c)]=some (updC (gonU A n c xs)):=by kernel_rfl
theorem zcD {o:Oper} {a:Act} {w:World} (y z:Operand) (ho:o.op = .build 33 #[(0,y),(2,z)]) (A:Option Addr) (n c:Nat) (xs:List TbP) (hy:a.eval y = .agg (attC zeB)) (hz:a.eval z = .slice A n c) :
  (execOp a.eval o).run Tryz.prog w = .ok (.value (.agg (updC (gonU A n c xs)))) w:=by
 unfold execOp
 simp only [ho,List.map_toArray,List.map_cons,List.map_nil,hy,hz,Sem.run_bind,run_build w _ _ _ (zsG A n c xs),Result.andThen_ok,Sem.run_pure]
theorem zkB {w:World} {g:Nat} {x:TbP} (h:Blk w g 53 (tbC x)) (hl:x.nb.length=16):w.ownsRow g 53 21 (.slice (some ⟨g,0,none⟩) 1 1) 1 (za4 tbL [x]):=by
 have hs:=zgn hl
 refine ⟨by rw [ziY,zkj hl],.inr ⟨g,1,tbC x,rfl,Nat.le_refl _,h,Nat.le_refl _,by decide,hs,?_⟩⟩
 rw [ziY,List.take_of_length_le (by rw [Array.length_toList];omega)]
 rfl
structure HdS (w z:World) (gb tb:Nat) (u U:UpP) (x:TbP):Prop where
 s:UpS w z 0 w.heap.size u
 b:Blk z gb 33 (updC U)
 a:UpAt z 0 gb U
 t:Blk z tb 53 (tbC (zbu x))
 m:mTb z 0 w.heap.size (zbu x)
section
variable {w z y:World} {gb tb:Nat} {u U:UpP} {x:TbP}
theorem HdS.on (h:HdS w z gb tb u U x) (hb:Below z.heap.size z y):HdS w y gb tb u U x :=
 ⟨h.s.on hb,h.b.over hb,h.a.below (hb.mono (Nat.le_of_lt h.b.lt)),h.t.over hb,mkTb _ _ _ _ _ (fun p _ hp=>hb.cell (by have:=h.s.here;omega)) h.m⟩
theorem HdS.drew (h:HdS w z gb tb u U x):HdS w z.drew gb tb u U x:=h.on (zal (Below.refl _ _))
theorem HdS.new (h:HdS w z gb tb u U x) (ob:Obj):HdS w (z.alloc ob) gb tb u U x:=h.on ((Below.refl _ _).alloc (Nat.le_refl _) ob)
theorem HdS.hi (h:HdS w z gb tb u U x):gb≤z.heap.size:=Nat.le_of_lt h.b.lt
theorem HdS.c25 (h:HdS w z gb tb u U x):z.cell? ⟨gb,25,none⟩=some (.slice U.nA U.nn U.nc):=by
 rw [h.b.cell];unfold updC;rw [List.getElem?_toArray];exact zeY h.a.ob
theorem HdS.rng (h:HdS w z gb tb u U x):z.rangeAt tb 0 (tbL (zbu x)):=zaj (l:=tbL (zbu x)) h.t
theorem HdS.grown (h:HdS w z gb tb u U x) {g:Nat} (hg:z.grownBy y (some g)) (h1:gb<g) (h2:tb<g) (h3:w.heap.size<g):HdS w y gb tb u U x :=
 ⟨h.s.grown hg (fun k hk=>by injection hk;omega),h.b.grown hg (fun e=>by injection e;omega),h.a.keep (fun q _ hq=>World.cell?_of_block (hg.block q.block (by have:=h.hi;omega) (fun e=>by injection e;omega))),h.t.grown hg (fun e=>by injection e;omega),
  mkTb _ _ _ _ _ (fun p _ hp=>World.cell?_of_block (hg.block p.block (by have:=h.s.here;omega) (fun e=>by injection e;omega))) h.m⟩
theorem HdS.made (h:HdS w z gb tb u U x) {A:Option Addr} {c g:Nat} (ho:z.ownsRow g 53 21 (.slice A (1+u.nn) c) (1+u.nn) (za4 tbL ([zbu x]++u.ne))) (hc:1+u.nn≤c) (hw:wTb (zbu x)):UpAt z 0 z.heap.size (gonU A (1+u.nn) c ([zbu x]++u.ne)):=by
 have hsz:∀ y∈[zbu x]++u.ne,wTb y:=fun y hy=>by
  rcases List.mem_append.1 hy with hy | hy
  ·rw [List.mem_singleton.1 hy];exact hw
  ·exact h.s.at_.ne.sz y hy
 have hl:([zbu x]++u.ne).length=1+u.nn:=by rw [List.length_append,h.s.at_.ne.len];rfl
 refine ⟨zd7 _ _ _,RowE.nil _ _ _ _,⟨(AtG.own (fun y hy=>zgm (hsz y hy)) hl ho).more (Nat.zero_le _) (Nat.le_refl _),fun y hy=>?_,hsz⟩,Nat.le_refl _,hc⟩
 have hm:mTb z 0 w.heap.size y:=by
  rcases List.mem_append.1 hy with hy | hy
  ·rw [List.mem_singleton.1 hy];exact h.m
  ·exact h.s.at_.ne.mem y hy
 exact mmTb _ _ _ _ _ _ (Nat.le_refl _) h.s.here hm
end
set_option maxRecDepth 20000 in
set_option maxHeartbeats 8000000 in
theorem zoJ (w:World) (hg:zaM w∧zdd w) (u:UpP) (hA:UpAt w 0 w.heap.size u) (hf:FewS u) (hfit:FitU u) (og:UInt8) :
  Calls Tryz.prog 5 #[.agg (updC u),.int .u8 (og.toNat:Int)] w fun e w'=>e = .returned (.bool true)∧Below w.heap.size w w':=by
 have S0:Hid (UkS w (w.alloc (.cells (updC u) 33)) 0 w.heap.size u):=hide ⟨UpS.start hA (Nat.le_refl _),hg.1.below ((Below.refl _ _).alloc (Nat.le_refl _) _),hg.2.below ((Below.refl _ _).alloc (Nat.le_refl _) _)⟩
 have HOB:=hA.ob
 have HF:=hide hf
 have FIT:=hide hfit
 have UW:=hide hA.W
 clear hA hg hf hfit
 go_enter Tryz.func5,Tryz.ntmps5
 go_wp2_with fail
 generalize w.alloc (.cells (updC u) 33)=w0 at *
 refine (zmw w0 S0.out.n S0.out.k).mono ?_
 rintro e w1 ⟨rfl,hb1⟩
 have S1:=hide (S0.out.on hb1)
 have RG1:=hide S1.out.s.rng
 clear hb1 S0
 go_wp2_with ((with_reducible refine zaV ?_ (.tmp 2) rfl w.heap.size 0 rfl u RG1.out HOB ?_);· rfl)
 refine (zuv w1 0 w.heap.size u S1.out.s.at_ S1.out.s.here HF.out).mono ?_
 obtain ⟨fw,hfw⟩:∃ q,zhc u=q:=⟨_,rfl⟩
 rw [hfw]
 have HFW:=hide hfw
 clear hfw
 rintro e w2 ⟨rfl,hb2⟩
 have S2:=hide (S1.out.on hb2)
 have RG2:=hide S2.out.s.rng
 clear hb2 S1 RG1
 go_wp2_with ((with_reducible refine zaV ?_ (.tmp 2) rfl w.heap.size 0 rfl u RG2.out HOB ?_);· rfl)
 refine (zll w2 0 w.heap.size u S2.out.s.at_ S2.out.s.here FIT.out S2.out.n S2.out.k).mono ?_
 unfold zh6
 cases fw
 ·obtain ⟨ek,hek⟩:∃ q,zel u.up=q:=⟨_,rfl⟩
  rw [hek]
  clear hek
  rintro e w3 ⟨v3,rfl,ho3,hb3⟩
  obtain ⟨A3,c3,rfl,_,_⟩:=zac ho3
  have S3:=hide (S2.out.on hb3)
  clear ho3 hb3
  go_wp2_with fail
  go_ret
  exact ⟨rfl,S3.out.s.bl⟩
 ·have IDS:=hide (zwz S2.out.s.at_.at_ (zl6 HFW.out).1)
  have FITS:=hide (zuw HFW.out).2
  rcases znj u.up with he | he | ⟨he,hr⟩
  ·obtain ⟨hru,_,_,hob⟩:=zfC he
   have HE:=hide he
   have HOBD:=hide hob
   have HRU:=hide hru
   have hn:=zrx he
   obtain ⟨n,hn'⟩:∃ n,(zg6 u.up).length=n:=⟨_,rfl⟩
   rw [hn'] at hn
   have HNL:=hide hn'
   have HZ2:=hide S2.out.s.bl.size
   have c24:=S2.out.s.c24
   rw [he,hn']
   rintro e w3 ⟨v3,rfl,ho3,hb3⟩
   obtain ⟨A3,c3,rfl,_,_⟩:=zac ho3
   have O3:=hide ho3
   have B3:=hide hb3
   have S3:=hide (S2.out.on hb3)
   have c24:=S3.out.s.c24
   clear ho3 hb3 he hob hru hn'
   by_cases hre:u.rn=0
   ·have hrI:((u.rn:Nat):Int)=0:=by omega
    clear hre
    go_wp2_with fail
    go_ret
    exact ⟨rfl,S3.out.s.bl⟩
   ·have hrI:¬ ((u.rn:Nat):Int)=0:=by omega
    by_cases hog:og.toNat<3
    ·have hgI:((og.toNat:Nat):Int)<3:=by omega
     clear hre hog
     go_wp2_with fail
     go_ret
     exact ⟨rfl,S3.out.s.bl⟩
    ·have hgI:¬ ((og.toNat:Nat):Int)<3:=by omega
     have HOG:=hide (show 3≤og.toNat by omega)
     have hrl:u.up.re.length=u.rn:=by show (u.re.map TbP.tb).length=u.rn;rw [List.length_map];exact S3.out.s.at_.re.len
     have HRE:=hide (show u.up.re.length≠0 by omega)
     obtain ⟨xa,xb,xz,tl,hsp⟩:=zjO HE.out HRE.out og
     have SP:=hide hsp
     have hnl:n=tl.length+8:=by rw [← HNL.out,HOBD.out,hsp.b];rfl
     have h8:¬ ((n:Nat):Int)<8:=by omega
     have hr0:(((u.rn:Nat):Int)==0)=false:=beq_eq_false_iff_ne.2 hrI
     have hg0:decide (((og.toNat:Nat):Int)<3)=false:=decide_eq_false hgI
     have h80:decide (((n:Nat):Int)<8)=false:=decide_eq_false h8
     obtain ⟨g3,rfl,hg3,hgl3,hfr3,hce3⟩:=zrw O3.out (by omega)
     have f7:=hfr3 7
     have e5:(zg6 u.up)[5]?=some 1:=by rw [HOBD.out,hsp.b];rfl
     have e7:(zg6 u.up)[7]?=some xz:=by rw [HOBD.out,hsp.b];rfl
     have k5:w3.cell? ⟨g3,5,none⟩=some (.int .u8 1):=hce3 5 1 e5
     have k7:w3.cell? ⟨g3,7,none⟩=some (.int .u8 (xz.toNat:Int)):=hce3 7 xz e7
     have h1:=zt3 O3.out 7 og
     have e6:(zg6 u.up).set 7 og=zp5 u.up og:=by rw [HOBD.out,hsp.b,hsp.s];rfl
     rw [e6] at h1
     have T4:=hide (At.own h1)
     have S4:Hid (UkS w (w3.setCell ⟨g3,7,none⟩ (.int .u8 (og.toNat:Int))) 0 w.heap.size u):=hide (S2.out.on (zcu B3.out (p:=⟨g3,7,none⟩) hg3 _))
     have hr1:u.rn=1:=by
      have h2:=(zf2 HRU.out).2.1.1
      have h3:=S3.out.s.at_.re.len
      omega
     have HR1:=hide hr1
     have hn1:u.nn≤1:=by
      have h2:=(zf2 HRU.out).2.2.1
      have h3:=S3.out.s.at_.ne.len
      omega
     have HN1:=hide hn1
     have hnn:n≤4077:=hn
     clear hre hog hrl hsp hnl hgl3 hgI hrI hfr3 hce3 e5 e7 h1 e6 hr1 hn1 hn
     go_wp2_with fail
     refine (zqv _ _ _ (some ⟨g3,0,none⟩) n c3 u.up UW.out HE.out HRE.out og HOG.out T4.out (Nat.le_refl _) (by omega) S4.out.n S4.out.k).mono ?_
     rintro e w5 ⟨U,rfl,hu5,hup5,hb5⟩
     have UOB:=hu5.ob
     have U5:=hide hu5
     have UP:=hide hup5
     have S5:=hide (S4.out.on hb5)
     have HZ5:=hide S5.out.s.bl.size
     generalize w3.setCell ⟨g3,7,none⟩ (.int .u8 (og.toNat:Int))=w4 at *
     have hUr:U.rn=0:=by
      have h2:=congrArg (fun q:Up=>q.re.length) hup5
      have h3:=hu5.re.len
      have h4:(U.re.map TbP.tb).length=0:=h2
      rw [List.length_map] at h4;omega
     have hUn:U.nn=1+u.nn:=by
      have h2:=congrArg (fun q:Up=>q.un.length) hup5
      have h3:=hu5.ne.len
      have h4:(U.ne.map TbP.tb).length=((u.re.map TbP.tb).map zjo++u.ne.map TbP.tb).length:=h2
      rw [List.length_append,List.length_map,List.length_map,List.length_map,List.length_map,S5.out.s.at_.re.len,S5.out.s.at_.ne.len,h3,HR1.out] at h4
      exact h4
     have e1:(w5.alloc (.cells zUpd 33)).heap.size=w5.heap.size+1:=by simp
     have M0:=Blk.new (w5.alloc (.cells zUpd 33)) 41 zfS
     rw [e1] at M0
     have NEWU:=hide ((Blk.new w5 33 zUpd).alloc (.cells zfS 41))
     have NEWN:=hide M0
     have W5:Hid (Below w5.heap.size w5 ((w5.alloc (.cells zUpd 33)).alloc (.cells zfS 41))):=hide (((Below.refl _ _).alloc (Nat.le_refl _) _).alloc (by rw [e1];omega) _)
     have HUR:=hide hUr
     have HUN:=hide hUn
     clear hu5 hup5 hb5 M0 e1 S3 T4 S2 RG2 O3 B3 f7 k5 k7 hUr hUn c24 hr0 hg0 h80 h8 hg3
     go_wp2_with (refine zau rfl (.tmp 9) (.tmp 55) rfl w5.heap.size rfl U rfl UOB NEWU.out rfl ?_;intro w6 hb6 hg6;have K6:=hide hb6;have HG6:=hide hg6;have N6:=hide (NEWN.out.grown hg6 (by simp));clear hb6 hg6;refine Hid.out ?_)
     refine hide ?_
     go_wp2_with (refine zaS rfl (.tmp 11) (.tmp 57) rfl (w5.heap.size+1) rfl 0 0 rfl N6.out rfl ?_;intro w7 hb7 hg7;have HG7:=hide hg7;have KU7:=hide (K6.out.grown hg7 (by simp));clear hb7 hg7;refine Hid.out ?_)
     refine hide ?_
     have W7:Hid (Below w5.heap.size w5 w7):=hide ((W5.out.grown HG6.out W5.out.size (fun k hk=>by injection hk;omega)).grown HG7.out (Nat.le_trans W5.out.size HG6.out.size) (fun k hk=>by injection hk;omega))
     have U7:=hide (U5.out.below W7.out)
     have S7:=hide (S5.out.on W7.out)
     have HU7:=hide KU7.out.lt
     have hnI:=HN1.out
     have b24:w7.cell? ⟨w5.heap.size,24,none⟩=some (.slice U.rA 0 U.rc):=by
      have h:=KU7.out.cell 24
      unfold updC at h
      rw [List.getElem?_toArray,zgV UOB,HUR.out] at h
      exact h
     have b25:w7.cell? ⟨w5.heap.size,25,none⟩=some (.slice U.nA (1+u.nn) U.nc):=by
      have h:=KU7.out.cell 25
      unfold updC at h
      rw [List.getElem?_toArray,zeY UOB,HUN.out] at h
      exact h
     have a25:=S7.out.s.c25
     have a24:w7.cell? ⟨w.heap.size,24,none⟩=some (.slice u.rA 1 u.rc):=by have h:=S7.out.s.c24;rw [HR1.out] at h;exact h
     clear K6 HG6 N6 HG7 NEWU NEWN W5 U5 S5 S4
     obtain ⟨bA,oA,x,hrA,hb1,hb2,hx,hat⟩:=S7.out.s.at_.re.row.at_ (sz:=21) (k:=0) (fun y hy=>zgm (S7.out.s.at_.re.sz y hy)) (by rw [HR1.out];decide)
     have hmem:=List.mem_of_getElem? hx
     have HM:=hide (S7.out.s.at_.re.mem x hmem)
     have HW:=hide (S7.out.s.at_.re.sz x hmem)
     have XN:=hide (zcZ HW.out)
     have HX:=hide hx
     have HBA:=hide hb2
     rw [Nat.zero_mul,Nat.add_zero] at hat
     have HAT:=hide hat
     rw [hrA] at a24
     have XA:=hide (zkv XN.out)
     have NEWT:=hide (Blk.new w7 53 zTbG)
     clear hx hat hmem hb1 hb2 hrA
     go_wp2_with (first
      | ((with_reducible refine zan ?_ (.tmp 78) rfl bA oA rfl x HAT.out XN.out ?_);· rfl)
      | (refine zbW rfl (.tmp 12) (.tmp 79) rfl w7.heap.size rfl x rfl XN.out NEWT.out rfl ?_;intro w8 hb8 hg8;have K8:=hide hb8;have W8:Hid (Below w7.heap.size w7 w8):=hide (((Below.refl _ _).alloc (Nat.le_refl _) _).grown hg8 (by simp) (by simp));clear hb8 hg8;refine Hid.out ?_))
     refine hide ?_
     have K8':Hid (Blk w8 w7.heap.size 53 (tbT x++(rdrA x++rdrR x)).toArray):=hide K8.out
     go_wp2_with (refine zdg rfl (.tmp 81) (.tmp 80) rfl w7.heap.size 2 rfl 0 zay rfl rfl (tbT x) (rdrA x) (rdrR x) K8'.out rfl XA.out ?_;intro w9 hb9 hg9;have K9:Hid (Blk w9 w7.heap.size 53 (tbC (zbu x))):=hide hb9;have W9:Hid (Below w7.heap.size w7 w9):=hide (W8.out.grown hg9 W8.out.size (fun q e=>by injection e with e;omega));clear hb9 hg9;refine Hid.out ?_)
     refine hide ?_
     have S9:=hide (S7.out.on W9.out)
     have U9:=hide (U7.out.below (W9.out.mono (Nat.le_of_lt (Nat.lt_of_lt_of_le HU7.out (Nat.le_refl _)))))
     have KU9:=hide (KU7.out.over W9.out)
     have HWZ:=hide S7.out.s.here
     clear NEWT K8 K8' W8 U7 S7 KU7 b24 b25 a24 a25 HAT XA
     have M9:Hid (mTb w9 0 w.heap.size (zbu x)):=hide (mkTb _ _ _ _ _ (fun p _ hp=>W9.out.cell (by have:=HWZ.out;omega)) HM.out)
     have Z9:Hid (wTb (zbu x)):=hide (zve HW.out)
     have hxl:u.re=[x]:=by
      have h1:=S9.out.s.at_.re.len
      have h2:=HX.out
      rw [HR1.out] at h1
      match hq:u.re,h1 with
      | [q],_ =>
       rw [hq] at h2
       have e:q=x:=by simpa using h2
       rw [e]
     have hune:U.ne.map TbP.tb=([zbu x]++u.ne).map TbP.tb:=by
      have h1:U.ne.map TbP.tb=(u.re.map TbP.tb).map zjo++u.ne.map TbP.tb:=congrArg Up.un UP.out
      rw [h1,hxl]
      rfl
     have HSU:Hid (∀ (A:Option Addr) (c:Nat),znT (gonU U.nA U.nn U.nc U.ne).up (gonU A (1+u.nn) c ([zbu x]++u.ne)).up=true):=hide (fun A c=>by
      have e1:(gonU U.nA U.nn U.nc U.ne).up=⟨zci,[],U.ne.map TbP.tb⟩:=rfl
      have e2:(gonU A (1+u.nn) c ([zbu x]++u.ne)).up=⟨zci,[],([zbu x]++u.ne).map TbP.tb⟩:=rfl
      rw [e1,e2,hune]
      unfold znT
      rw [zlA]
      simp)
     have FS:Hid (FitS (gonU U.nA U.nn U.nc U.ne)):=hide (by
      refine ⟨⟨Nat.zero_le _,(fun y hy=>by cases hy),Nat.zero_le _,Nat.zero_le _,Nat.zero_le _⟩,Nat.zero_le _,(by show U.nn≤1000000000;have:=HUN.out;have:=HN1.out;omega),(fun y hy=>by cases hy),fun y hy=>?_⟩
      have h1:y.tb∈([zbu x]++u.ne).map TbP.tb:=by rw [← hune];exact List.mem_map_of_mem (f:=TbP.tb) hy
      obtain ⟨q,hq,e⟩:=List.mem_map.1 h1
      have k1:y.ms.length=y.mn:=(U9.out.ne.mem y hy).1.len
      have k2:y.us.length=y.un:=(U9.out.ne.mem y hy).2.1.len
      have k3:q.ms=y.ms:=congrArg Tb.ms e
      have k4:q.us=y.us:=congrArg Tb.us e
      have k5:q.ms.length≤1000000000∧q.us.length≤1000000000:=by
       rcases List.mem_append.1 hq with hq | hq
       ·rw [List.mem_singleton.1 hq]
        have f:=FITS.out.re x (by rw [hxl];exact List.mem_cons_self)
        have g1:x.ms.length=x.mn:=HM.out.1.len
        have g2:x.us.length=x.un:=HM.out.2.1.len
        show x.ms.length≤1000000000∧x.us.length≤1000000000
        omega
       ·have f:=FITS.out.ne q hq
        have g1:q.ms.length=q.mn:=(S9.out.s.at_.ne.mem q hq).1.len
        have g2:q.us.length=q.un:=(S9.out.s.at_.ne.mem q hq).2.1.len
        omega
      rw [k3,k4] at k5
      omega)
     have D9:Hid (HdS w w9 w5.heap.size w7.heap.size u U x):=hide ⟨S9.out.s,KU9.out,U9.out.more (Nat.zero_le _) (Nat.le_refl _),K9.out,M9.out⟩
     have HGB:=hide KU9.out.lt
     have HTB:=hide K9.out.lt
     have HWB:=hide S9.out.s.b.lt
     have HNC:=hide S9.out.s.at_.nc
     generalize w5.heap.size=gb at *
     generalize w7.heap.size=tb at *
     clear S9 KU9 U9 K9 M9 HM hxl hune UP W9 W7 HZ5 HU7 hnI HWZ HBA
     go_wp2_with fail
     refine wp_region_held_drew (S:=fun z=>HdS w z gb tb u U x) (by kernel_rfl) D9.out.drew (fun hHeld=>?_)
     refine rgT 0 ?_
     refine rgT 1 ?_
     refine rgT 3 ?_
     refine rgK 4 (fun w' hSw=>hSw.c25) ?_
     refine rgV 7 (.agg (tbC (zbu x))) (fun w' hSw=>zhC (.tmp 12) rfl tb 0 rfl hSw.rng rfl) ?_
     refine rgT 9 ?_
     refine rgK 10 (fun w' hSw=>hSw.s.c25) ?_
     refine zcH (w1:=w9.drew.alloc (.cells (tbC (zbu x)) 53)) (i:=2) (j:=8) (v:=.slice (some ⟨w9.drew.heap.size,0,none⟩) 1 1) rfl rfl (by kernel_rfl) (by rfl) (by rfl) (zdZ w9.drew) (fun w=>by kernel_rfl) (zd8 (.tmp 89) rfl (zbu x) rfl rfl) (hHeld.new _) ?_ ?_
     ·intro hHeld
      refine rgN ?_
      have NB:=Blk.new w9.drew 53 (tbC (zbu x))
      have G9:Hid (w9.heap.size≤w9.drew.heap.size):=hide (Nat.le_refl _)
      refine zae (i:=2) rfl (by kernel_rfl) (by rfl) (zdZ (w9.drew.alloc (.cells (tbC (zbu x)) 53))) (fun w=>by kernel_rfl) ?_
      rintro e wa ⟨rfl,hbwa⟩
      refine ⟨_,rfl,hHeld.on hbwa,fun hHeld=>?_⟩
      refine rgN ?_
      have NB1:=NB.over hbwa
      refine rgV 5 (.agg (updC (gonU U.nA U.nn U.nc U.ne))) (fun w' hSw=>zcD (.tmp 84) (.tmp 86) rfl _ _ _ _ rfl rfl) ?_
      refine zae (i:=6) rfl (by kernel_rfl) (by rfl) (zdZ (wa)) (fun w=>by kernel_rfl) ?_
      rintro e wb ⟨rfl,hbwb⟩
      refine ⟨_,rfl,hHeld.on hbwb,fun hHeld=>?_⟩
      refine rgN ?_
      have NB2:=NB1.over hbwb
      obtain ⟨v6,w6,hrun,ho6,hg6,_⟩:=zc1 (wb) (w9.drew.heap.size) _ 1 [zbu x] (zkB NB2 rfl) 0 w.heap.size u.nA u.nn u.nc u.ne hHeld.s.at_.ne.row (fun y hy=>hHeld.s.at_.ne.sz y hy) (by have:=HN1.out;omega) (Nat.le_of_lt NB2.lt)
      obtain ⟨A6,c6,rfl,hc6,_⟩:=za0 ho6
      have HRUN:=hide hrun
      have O6:=hide ho6
      clear hrun ho6
      refine zaC (i:=11) (v:=.slice A6 (1+u.nn) c6) (w':=w6) rfl (by kernel_rfl) (by rfl) (zbx (.tmp 90) (.tmp 92) 31 31 31 rfl rfl rfl rfl HRUN.out) (hHeld.grown (g:=w9.drew.heap.size) hg6 (by have:=HGB.out;have:=G9.out;omega) (by have:=HTB.out;have:=G9.out;omega) (by have:=HWB.out;have:=G9.out;omega)) (fun hHeld=>?_)
      refine rgN ?_
      refine rgV 12 (.agg (updC (gonU A6 (1+u.nn) c6 ([zbu x]++u.ne)))) (fun w' hSw=>zcD (.tmp 88) (.tmp 93) rfl _ _ _ _ rfl rfl) ?_
      refine zae (i:=13) rfl (by kernel_rfl) (by rfl) (zih w6 0 gb 0 w6.heap.size (gonU U.nA U.nn U.nc U.ne) (gonU A6 (1+u.nn) c6 ([zbu x]++u.ne)) ⟨zd7 _ _ _,RowE.nil _ _ _ _,hHeld.a.ne,Nat.le_refl _,hHeld.a.nc⟩ (hHeld.made O6.out hc6 Z9.out) hHeld.hi (Nat.le_refl _) FS.out) (fun w=>by kernel_rfl) ?_
      rw [HSU.out A6 c6]
      rintro e w7 ⟨rfl,hb7⟩
      refine ⟨_,rfl,hHeld.on hb7,fun hHeld=>?_⟩
      refine rgN ?_
      refine rgT 14 ?_
      refine rgT 15 ?_
      refine wpAnyH_done (by kernel_rfl) ?_ _
      go_wp2_with fail
      go_ret
      exact ⟨rfl,hHeld.s.bl⟩
     ·rintro e wa ⟨rfl,hbwa⟩
      refine ⟨_,rfl,hHeld.on hbwa,fun hHeld=>?_⟩
      refine rgN ?_
      refine rgV 5 (.agg (updC (gonU U.nA U.nn U.nc U.ne))) (fun w' hSw=>zcD (.tmp 84) (.tmp 86) rfl _ _ _ _ rfl rfl) ?_
      have G9:Hid (w9.heap.size≤wa.heap.size):=hide hbwa.size
      refine zcH (w1:=wa.alloc (.cells (tbC (zbu x)) 53)) (i:=6) (j:=8) (v:=.slice (some ⟨wa.heap.size,0,none⟩) 1 1) rfl rfl (by kernel_rfl) (by rfl) (by rfl) (zdZ wa) (fun w=>by kernel_rfl) (zd8 (.tmp 89) rfl (zbu x) rfl rfl) (hHeld.new _) ?_ ?_
      ·intro hHeld
       refine rgN ?_
       have NB:=Blk.new wa 53 (tbC (zbu x))
       refine zae (i:=6) rfl (by kernel_rfl) (by rfl) (zdZ (wa.alloc (.cells (tbC (zbu x)) 53))) (fun w=>by kernel_rfl) ?_
       rintro e wb ⟨rfl,hbwb⟩
       refine ⟨_,rfl,hHeld.on hbwb,fun hHeld=>?_⟩
       refine rgN ?_
       have NB2:=NB.over hbwb
       obtain ⟨v6,w6,hrun,ho6,hg6,_⟩:=zc1 (wb) (wa.heap.size) _ 1 [zbu x] (zkB NB2 rfl) 0 w.heap.size u.nA u.nn u.nc u.ne hHeld.s.at_.ne.row (fun y hy=>hHeld.s.at_.ne.sz y hy) (by have:=HN1.out;omega) (Nat.le_of_lt NB2.lt)
       obtain ⟨A6,c6,rfl,hc6,_⟩:=za0 ho6
       have HRUN:=hide hrun
       have O6:=hide ho6
       clear hrun ho6
       refine zaC (i:=11) (v:=.slice A6 (1+u.nn) c6) (w':=w6) rfl (by kernel_rfl) (by rfl) (zbx (.tmp 90) (.tmp 92) 31 31 31 rfl rfl rfl rfl HRUN.out) (hHeld.grown (g:=wa.heap.size) hg6 (by have:=HGB.out;have:=G9.out;omega) (by have:=HTB.out;have:=G9.out;omega) (by have:=HWB.out;have:=G9.out;omega)) (fun hHeld=>?_)
       refine rgN ?_
       refine rgV 12 (.agg (updC (gonU A6 (1+u.nn) c6 ([zbu x]++u.ne)))) (fun w' hSw=>zcD (.tmp 88) (.tmp 93) rfl _ _ _ _ rfl rfl) ?_
       refine zae (i:=13) rfl (by kernel_rfl) (by rfl) (zih w6 0 gb 0 w6.heap.size (gonU U.nA U.nn U.nc U.ne) (gonU A6 (1+u.nn) c6 ([zbu x]++u.ne)) ⟨zd7 _ _ _,RowE.nil _ _ _ _,hHeld.a.ne,Nat.le_refl _,hHeld.a.nc⟩ (hHeld.made O6.out hc6 Z9.out) hHeld.hi (Nat.le_refl _) FS.out) (fun w=>by kernel_rfl) ?_
       rw [HSU.out A6 c6]
       rintro e w7 ⟨rfl,hb7⟩
       refine ⟨_,rfl,hHeld.on hb7,fun hHeld=>?_⟩
       refine rgN ?_
       refine rgT 14 ?_
       refine rgT 15 ?_
       refine wpAnyH_done (by kernel_rfl) ?_ _
       go_wp2_with fail
       go_ret
       exact ⟨rfl,hHeld.s.bl⟩
      ·rintro e wb ⟨rfl,hbwb⟩
       refine ⟨_,rfl,hHeld.on hbwb,fun hHeld=>?_⟩
       refine rgN ?_
       have G9:Hid (w9.heap.size≤wb.heap.size):=hide (Nat.le_trans G9.out hbwb.size)
       refine zaC (i:=8) (v:=.slice (some ⟨wb.heap.size,0,none⟩) 1 1) (w':=wb.alloc (.cells (tbC (zbu x)) 53)) rfl (by kernel_rfl) (by rfl) (zd8 (.tmp 89) rfl (zbu x) rfl rfl) (hHeld.new _) (fun hHeld=>?_)
       refine rgN ?_
       have NB2:=Blk.new wb 53 (tbC (zbu x))
       obtain ⟨v6,w6,hrun,ho6,hg6,_⟩:=zc1 (wb.alloc (.cells (tbC (zbu x)) 53)) (wb.heap.size) _ 1 [zbu x] (zkB NB2 rfl) 0 w.heap.size u.nA u.nn u.nc u.ne hHeld.s.at_.ne.row (fun y hy=>hHeld.s.at_.ne.sz y hy) (by have:=HN1.out;omega) (Nat.le_of_lt NB2.lt)
       obtain ⟨A6,c6,rfl,hc6,_⟩:=za0 ho6
       have HRUN:=hide hrun
       have O6:=hide ho6
       clear hrun ho6
       refine zaC (i:=11) (v:=.slice A6 (1+u.nn) c6) (w':=w6) rfl (by kernel_rfl) (by rfl) (zbx (.tmp 90) (.tmp 92) 31 31 31 rfl rfl rfl rfl HRUN.out) (hHeld.grown (g:=wb.heap.size) hg6 (by have:=HGB.out;have:=G9.out;omega) (by have:=HTB.out;have:=G9.out;omega) (by have:=HWB.out;have:=G9.out;omega)) (fun hHeld=>?_)
       refine rgN ?_
       refine rgV 12 (.agg (updC (gonU A6 (1+u.nn) c6 ([zbu x]++u.ne)))) (fun w' hSw=>zcD (.tmp 88) (.tmp 93) rfl _ _ _ _ rfl rfl) ?_
       refine zae (i:=13) rfl (by kernel_rfl) (by rfl) (zih w6 0 gb 0 w6.heap.size (gonU U.nA U.nn U.nc U.ne) (gonU A6 (1+u.nn) c6 ([zbu x]++u.ne)) ⟨zd7 _ _ _,RowE.nil _ _ _ _,hHeld.a.ne,Nat.le_refl _,hHeld.a.nc⟩ (hHeld.made O6.out hc6 Z9.out) hHeld.hi (Nat.le_refl _) FS.out) (fun w=>by kernel_rfl) ?_
       rw [HSU.out A6 c6]
       rintro e w7 ⟨rfl,hb7⟩
       refine ⟨_,rfl,hHeld.on hb7,fun hHeld=>?_⟩
       refine rgN ?_
       refine rgT 14 ?_
       refine rgT 15 ?_
       refine wpAnyH_done (by kernel_rfl) ?_ _
       go_wp2_with fail
       go_ret
       exact ⟨rfl,hHeld.s.bl⟩
  ·rw [he]
   rintro e w3 ⟨v3,rfl,ho3,hb3⟩
   obtain ⟨A3,c3,rfl,_,_⟩:=zac ho3
   have S3:=hide (S2.out.on hb3)
   clear ho3 hb3 he
   go_wp2_with fail
   go_ret
   exact ⟨rfl,S3.out.s.bl⟩
  ·rw [he]
   rintro e w3 ⟨v3,rfl,ho3,hb3⟩
   obtain ⟨A3,c3,rfl,_,_⟩:=zac ho3
   have S3:=hide (S2.out.on hb3)
   clear ho3 hb3 he hr
   go_wp2_with fail
   go_ret
   exact ⟨rfl,S3.out.s.bl⟩
end
end Go.Proofs.YtookpplebikfnaaGreatDoor
