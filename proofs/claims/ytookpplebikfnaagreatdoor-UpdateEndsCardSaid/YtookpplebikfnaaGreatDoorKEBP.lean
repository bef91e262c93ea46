/-
  The small case of layer 10's statements comes out right. The one condition: the tables hold what their texts lay.
  UpdateEnds, walked: it returns true, whatever comes in.
-/
import Derived.Test.YtookpplebikfnaaGreatDoorKEBO
set_option linter.unusedVariables false
set_option linter.unusedSimpArgs false
namespace Go.Proofs.YtookpplebikfnaaGreatDoor
section
open Go.RowKit
def zqH:Tb:=⟨4,5,0,zav,[],[]⟩
def zqG:Up:=⟨zbV,[],[zqH]⟩
def zo3:List UInt8:=[0,0,0,6,128,15,3,0,1,5]
def zmM:List UInt8:=[0,0,0,3,128,15,0]
def zqI:Rw:=⟨128,15,[]⟩
theorem zu8:zbV.W:=⟨rfl,(fun x hx=>by cases hx),(fun x hx=>by cases hx)⟩
theorem zvE:zqH.W:=⟨rfl,(fun x hx=>by cases hx),(fun x hx=>by cases hx)⟩
theorem zvD:UpW zqG:=⟨zu8,(fun t ht=>by cases ht),(fun t ht=>by rw [List.mem_singleton.1 ht];exact zvE)⟩
theorem zqK:zja zqG=zo3:=by kernel_rfl
theorem zn2:zgf zqG=0:=by kernel_rfl
theorem ztn:zkH zqG=zo3:=by kernel_rfl
theorem zjJ:zdN zmM=true:=by kernel_rfl
theorem zqJ:(zdu (ownB zmM)).1=[zqI]:=by kernel_rfl
theorem ziu:tabs [zqI]=([],[],3):=by kernel_rfl
theorem zsR (w:World) (t:TypeId) (bs:List UInt8):At (w.alloc (.cells (bvs bs).toArray t)) w.heap.size (w.heap.size+1) (some ⟨w.heap.size,0,none⟩) bs.length bs:=by
 have hB:=Blk.new w t (bvs bs).toArray
 exact ⟨rfl,fun _=>⟨_,0,rfl,Nat.le_refl _,by omega,fun j u hu=>by rw [Nat.zero_add,hB.cell];simp [bvs,hu]⟩⟩
theorem zvF (w:World) (lo hi:Nat) (A:Option Addr) (n c:Nat) (h:At w lo hi A n zmM) (hh:hi≤w.heap.size) (hn:n≤140737488355328) (hN:zaQ w) (hK:zc3 w) :
  Calls Tryz.prog 11 #[.slice A n c] w fun e w'=>∃ U:UpP,e = .returned (.tuple #[.agg (updC U),.int .i64 3,.agg (zgA 3 9)])∧U.at_.ob.length=16∧Below w.heap.size w w':=by
 refine (zlo w lo hi A n c zmM h hh hn hN hK [] [zqI] zjJ zqJ (by decide) (by simp) (fun y hy=>by rw [List.mem_singleton.1 hy];exact ⟨.inr rfl,rfl⟩) (fun i hi=>by cases hi) (fun i hi=>by cases hi) (fun x hx=>by rw [List.mem_singleton.1 hx];decide) (fun l hl=>?_)).mono ?_
 ·unfold finO
  refine if_neg (fun h=>?_)
  have h1:=h.1
  have:cntK 14 l=0:=by
   unfold cntK
   rw [List.length_eq_zero_iff,List.filter_eq_nil_iff]
   intro x hx
   have h3:x.raw∈[zqI]:=by
    have e:l.map RawP.raw=[zqI]:=hl
    rw [← e];exact List.mem_map.2 ⟨x,hx,rfl⟩
   have h5:x.k=15:=congrArg Rw.k (List.mem_singleton.1 h3)
   simp [h5]
  omega
 ·rintro e w' ⟨U,o,nc,ns,rfl,hu,ho,hb⟩
  have key:o=3∧nc=3∧ns=9:=by
   generalize U.up=V at ho
   cases ho with
   | torn h1=>exact absurd (zjJ.symm.trans h1) (by decide)
   | reset a rest s _ h2=>exact absurd h2.2.2 (by decide)
   | table a rest o _ h2 _ h4=>exact ⟨rfl,rfl,rfl⟩
   | held a rest o _ h2 _ h4 =>
    obtain ⟨_,rfl,rfl⟩:=h2
    rw [ziu] at h4
    exact absurd h4 (by decide)
   | reach a rest o m _ h2 _ h4 h5 _ _ =>
    obtain ⟨_,rfl,rfl⟩:=h2
    rw [ziu] at h4
    exact absurd h4.symm h5
   | none a rest o m _ h2 _ h4 h5 _ _ =>
    obtain ⟨_,rfl,rfl⟩:=h2
    rw [ziu] at h4
    exact absurd h4.symm h5
  obtain ⟨rfl,rfl,rfl⟩:=key
  exact ⟨U,rfl,hu.ob,hb⟩
theorem zuk {p:AtP} {w:World} {lo hi:Nat} (h:zax w lo hi p) (e:p.ats=zbV):Fit9 p:=by
 have e1:(p.path.map SgP.sg).length=0:=congrArg (fun a:Ats=>a.path.length) e
 have e2:p.cl.length=0:=congrArg (fun a:Ats=>a.cl.length) e
 have e3:p.ex.length=0:=congrArg (fun a:Ats=>a.ex.length) e
 have e4:(p.tl.map TnP.tun).length=0:=congrArg (fun a:Ats=>a.tn.length) e
 rw [List.length_map] at e1 e4
 have a1:=h.path.len
 have a2:=h.cl.len
 have a3:=h.ex.len
 have a4:=h.tl.len
 refine ⟨by omega,fun x hx=>?_,by omega,by omega,by omega⟩
 rw [List.eq_nil_of_length_eq_zero e1] at hx
 cases hx
theorem fit_sm {w:World} {lo hi:Nat} {U:UpP} (h:UpAt w lo hi U) (e:U.ne.map TbP.tb=[zqH]∧U.re.map TbP.tb=[]∧U.at_.ats=zbV):FitU U:=by
 refine ⟨fun _=>zuk h.at_ e.2.2,fun x hx=>?_,fun x hx=>?_⟩
 ·have h1:x.tb∈U.re.map TbP.tb:=List.mem_map.2 ⟨x,hx,rfl⟩
  rw [e.2.1] at h1
  cases h1
 ·have h1:x.tb∈U.ne.map TbP.tb:=List.mem_map.2 ⟨x,hx,rfl⟩
  rw [e.1] at h1
  have h2:=List.mem_singleton.1 h1
  have g1:x.ms=[]:=congrArg Tb.ms h2
  have g2:x.us=[]:=congrArg Tb.us h2
  have g3:=(h.ne.mem x hx).1.len
  have g4:=(h.ne.mem x hx).2.1.len
  rw [g1] at g3
  rw [g2] at g4
  have g5:0=x.mn:=g3
  have g6:0=x.un:=g4
  exact ⟨by omega,by omega,fun m hm=>by rw [g1] at hm;cases hm⟩
set_option maxRecDepth 20000 in
set_option maxHeartbeats 4000000 in
theorem zmF (w:World) (hN:zaQ w) (hK:zc3 w):Calls Tryz.prog 7 #[] w fun e w'=>e = .returned (.bool true)∧Below w.heap.size w w':=by
 have HN:=hide hN
 have HK:=hide hK
 have T0:=hide (zsR w 5 zo3)
 have B0:Hid (Below w.heap.size w (w.alloc (.cells (bvs zo3).toArray 5))):=hide ((Below.refl _ _).alloc (Nat.le_refl _) _)
 have hb9:(bvs zo3).toArray=#[.int .u8 0,.int .u8 0,.int .u8 0,.int .u8 6,.int .u8 128,.int .u8 15,.int .u8 3,.int .u8 0,.int .u8 1,.int .u8 5]:=by kernel_rfl
 rw [hb9] at T0 B0
 clear hN hK hb9
 go_enter Tryz.func7,Tryz.ntmps7
 go_wp2_with fail
 refine (zeh _ _ _ (some ⟨w.heap.size,0,none⟩) 10 10 zqG zvD (fun t ht=>by cases ht) zn2 (by rw [zqK];exact T0.out) (by simp) (by decide) (HN.out.below B0.out) (HK.out.below B0.out)).mono ?_
 rintro e w1 ⟨U,rfl,hu1,hup1,hb1⟩
 have UOB:=hu1.ob
 have U1:=hide hu1
 have UP:=hide hup1
 have W1:=hide (zaa B0.out hb1 (by simp))
 have e1:(w1.alloc (.cells zUpd 33)).heap.size=w1.heap.size+1:=by simp
 have M0:=Blk.new (w1.alloc (.cells zUpd 33)) 41 zdC
 rw [e1] at M0
 have NEWU:=hide ((Blk.new w1 33 zUpd).alloc (.cells zdC 41))
 have NEWN:=hide M0
 have W2:Hid (Below w1.heap.size w1 ((w1.alloc (.cells zUpd 33)).alloc (.cells zdC 41))):=hide (((Below.refl _ _).alloc (Nat.le_refl _) _).alloc (by rw [e1];omega) _)
 clear hu1 hup1 hb1 T0 B0 M0 e1
 go_wp2_with (refine zas rfl (.tmp 1) (.tmp 12) rfl w1.heap.size rfl U rfl UOB NEWU.out rfl ?_;intro w2 hb2 hg2;have K2:=hide hb2;have HG2:=hide hg2;have N2:=hide (NEWN.out.grown hg2 (by simp));clear hb2 hg2;refine Hid.out ?_)
 refine hide ?_
 go_wp2_with (refine zaI rfl (.tmp 3) (.tmp 14) rfl (w1.heap.size+1) rfl 0 0 rfl N2.out rfl ?_;intro w3 hb3 hg3;have K3:=hide hb3;have HG3:=hide hg3;have KU3:=hide (K2.out.grown hg3 (by simp));clear hb3 hg3;refine Hid.out ?_)
 refine hide ?_
 have W3:Hid (Below w1.heap.size w1 w3):=hide ((W2.out.grown HG2.out W2.out.size (fun k hk=>by injection hk;omega)).grown HG3.out (Nat.le_trans W2.out.size HG2.out.size) (fun k hk=>by injection hk;omega))
 have U3:=hide (U1.out.below W3.out)
 have WW3:=hide (zaa W1.out W3.out (Nat.le_refl _))
 have T3:=hide (zsR w3 5 zmM)
 have B3:Hid (Below w3.heap.size w3 (w3.alloc (.cells (bvs zmM).toArray 5))):=hide ((Below.refl _ _).alloc (Nat.le_refl _) _)
 have hb9:(bvs zmM).toArray=#[.int .u8 0,.int .u8 0,.int .u8 0,.int .u8 3,.int .u8 128,.int .u8 15,.int .u8 0]:=by kernel_rfl
 rw [hb9] at T3 B3
 have HZ3:=hide W3.out.size
 have N3:=hide (HN.out.below (zaa WW3.out B3.out (Nat.le_refl _)))
 have KN3:=hide (HK.out.below (zaa WW3.out B3.out (Nat.le_refl _)))
 clear K2 HG2 N2 HG3 NEWU NEWN W2 W3 U1 hb9
 go_wp2_with fail
 refine (zvF _ _ _ (some ⟨w3.heap.size,0,none⟩) 7 7 T3.out (by simp) (by decide) N3.out KN3.out).mono ?_
 rintro e w4 ⟨V,rfl,VOB,hb4⟩
 have W4:=hide (zaa B3.out hb4 (by simp))
 have e1:(w4.alloc (.cells zUpd 33)).heap.size=w4.heap.size+1:=by simp
 have M0:=Blk.new (w4.alloc (.cells zUpd 33)) 41 zdC
 rw [e1] at M0
 have NEWU:=hide ((Blk.new w4 33 zUpd).alloc (.cells zdC 41))
 have NEWN:=hide M0
 have W5:Hid (Below w4.heap.size w4 ((w4.alloc (.cells zUpd 33)).alloc (.cells zdC 41))):=hide (((Below.refl _ _).alloc (Nat.le_refl _) _).alloc (by rw [e1];omega) _)
 clear hb4 T3 B3 N3 KN3 M0 e1
 go_wp2_with (refine zas rfl (.tmp 4) (.tmp 18) rfl w4.heap.size rfl V rfl VOB NEWU.out rfl ?_;intro w5 hb5 hg5;have HG5:=hide hg5;have N5:=hide (NEWN.out.grown hg5 (by simp));clear hb5 hg5;refine Hid.out ?_)
 refine hide ?_
 go_wp2_with (refine zaI rfl (.tmp 6) (.tmp 20) rfl (w4.heap.size+1) rfl 3 9 rfl N5.out rfl ?_;intro w6 hb6 hg6;have K6:=hide hb6;have HG6:=hide hg6;clear hb6 hg6;refine Hid.out ?_)
 refine hide ?_
 have W6:Hid (Below w3.heap.size w3 w6):=hide (zaa W4.out ((W5.out.grown HG5.out W5.out.size (fun k hk=>by injection hk;omega)).grown HG6.out (Nat.le_trans W5.out.size HG5.out.size) (fun k hk=>by injection hk;omega)) (Nat.le_refl _))
 have U6:=hide (U3.out.below (W6.out.mono HZ3.out))
 have KU6:=hide (KU3.out.over W6.out)
 have KN6:=hide (K3.out.over W6.out)
 have WW6:=hide (zaa WW3.out W6.out (Nat.le_refl _))
 have RU6:=hide (zah (l:=updL U) KU6.out)
 have HLN:Hid (U.ne.map TbP.tb=[zqH]∧U.re.map TbP.tb=[]∧U.at_.ats=zbV):=hide ⟨congrArg Up.un UP.out,congrArg Up.re UP.out,congrArg Up.at_ UP.out⟩
 have FU:=hide (fit_sm U6.out HLN.out)
 have hz6:w1.heap.size≤w6.heap.size:=Nat.le_trans HZ3.out W6.out.size
 clear HG5 N5 HG6 NEWU NEWN W5 W4 KU3 K3 U3 WW3 VOB
 go_wp2_with ((with_reducible refine zat ?_ (.tmp 1) rfl w1.heap.size 0 rfl U RU6.out UOB ?_);· rfl)
 refine (zlp w6 _ _ U U6.out hz6 FU.out (HN.out.below WW6.out) (HK.out.below WW6.out)).mono ?_
 rw [UP.out]
 unfold zh6
 rw [zn2,ztn]
 rintro e w7 ⟨v7,rfl,ho7,hb7⟩
 obtain ⟨A7,c7,rfl,_,_⟩:=zad ho7
 have T7:=hide (At.own ho7)
 have KU7:=hide (KU6.out.over hb7)
 have KN7:=hide (KN6.out.over hb7)
 have KM7:=hide (K6.out.over hb7)
 have U7:=hide (U6.out.below (hb7.mono hz6))
 have WW7:=hide (zaa WW6.out hb7 (Nat.le_refl _))
 clear ho7 hb7 KU6 KN6 K6 U6 WW6 RU6 W6
 obtain ⟨P0,rA,rn,rc,re,nA,nn,nc,ne⟩:=U
 have c25:w7.cell? ⟨w1.heap.size,25,none⟩=some (.slice nA nn nc):=by rw [KU7.out.cell];unfold updC;simpa using zf2 (u:=⟨P0,rA,rn,rc,re,nA,nn,nc,ne⟩) UOB
 have hnn:nn=1:=by
  have h1:=U7.out.ne.len
  have h2:=congrArg List.length HLN.out.1
  rw [List.length_map] at h2
  exact h1.symm.trans h2
 subst hnn
 obtain ⟨b,o,x,hA,_,_,hx,hat⟩:=U7.out.ne.row.at_ (sz:=21) (k:=0) (fun y hy=>zkm (U7.out.ne.sz y hy)) (show 0<1 by decide)
 have hxt:x.tb=zqH:=by
  have h1:=congrArg (fun l:List Tb=>l[0]?) HLN.out.1
  have hx':ne[0]?=some x:=hx
  simp only [List.getElem?_map,hx',Option.map_some] at h1
  exact Option.some.inj h1
 have hA':nA=some ⟨b,o,none⟩:=hA
 subst hA'
 have x0:w7.cell? ⟨b,o,none⟩=some (.int .i64 4):=by
  have h1:=hat 0 _ (zoR x)
  have h2:x.s=4:=congrArg Tb.s hxt
  rw [h2] at h1
  simpa using h1
 have x1:w7.cell? ⟨b,o+1,none⟩=some (.int .i64 5):=by
  have h1:=hat 1 _ (zoQ x)
  have h2:x.f=5:=congrArg Tb.f hxt
  rw [h2] at h1
  simpa using h1
 have n0:w7.cell? ⟨w1.heap.size+1,0,none⟩=some (.int .i64 0):=KN7.out.cell 0
 have m0:w7.cell? ⟨w4.heap.size+1,0,none⟩=some (.int .i64 3):=KM7.out.cell 0
 have m1:w7.cell? ⟨w4.heap.size+1,1,none⟩=some (.int .i64 9):=KM7.out.cell 1
 clear hat hx hxt hA KU7 KN7 KM7 U7 HLN FU UP
 go_wp2_with (first
  | ((with_reducible refine zk3 ?_ (.tmp 74) rfl rfl T7.out ?_);· rfl)
  | ((with_reducible refine zjh ?_ (.tmp 75) (.const (.string ⟨#[0,0,0,6,128,15,3,0,1,5]⟩)) rfl zo3 [0,0,0,6,128,15,3,0,1,5] rfl rfl true (by decide) ?_);· rfl))
 go_ret
 exact ⟨rfl,WW7.out⟩
end
section
open Go.RowKit
def Glob10 (w:World):Prop:=zaQ w∧zc3 w
def endP (s f:Int):TbP:=⟨s,f,0,zav,none,0,0,[],none,0,0,[]⟩
def endT (s f:Int):Tb:=⟨s,f,0,zav,[],[]⟩
def endU (s f:Int):Up:=⟨zbV,[],[endT s f]⟩
def endV (g:Nat) (s f:Int):UpP:={ zcY with nA:=some ⟨g,0,none⟩,nn:=1,nc:=1,ne:=[endP s f] }
theorem zfj (g:Nat) (s f:Int):(endV g s f).up=endU s f:=rfl
theorem zvc (s f:Int):(endT s f).W:=⟨rfl,(fun x hx=>by cases hx),(fun x hx=>by cases hx)⟩
theorem zoz (s f:Int):UpW (endU s f):=⟨zu8,(fun t ht=>by cases ht),(fun t ht=>by rw [List.mem_singleton.1 ht];exact zvc s f)⟩
theorem zwD {s f:Int} (hs:s=4∨s=16) (hf:f=5∨f=128):zgf (endU s f)=0∧(zkH (endU s f)).length=10:=by
 rcases hs with rfl | rfl <;> rcases hf with rfl | rfl
 ·exact ⟨by kernel_rfl,by kernel_rfl⟩
 ·exact ⟨by kernel_rfl,by kernel_rfl⟩
 ·exact ⟨by kernel_rfl,by kernel_rfl⟩
 ·exact ⟨by kernel_rfl,by kernel_rfl⟩
theorem end_no {s f:Int} (h:zdi s f=false):zcv (endU s f)=false∧zgf (endU s f)=1:=by
 have h1:zcv (endU s f)=false:=by
  have h2:zaY false (endT s f)=false:=by unfold zaY;show (zdi s f&&_)=false;rw [h];rfl
  unfold zcv
  have h3:fewT (zaY false) (endU s f).un=false:=by
   unfold fewT
   show (_&&[endT s f].all (zaY false))=false
   rw [List.all_cons,h2]
   simp
  rw [h3]
  simp
 exact ⟨h1,if_pos h1⟩
theorem zsE (s f:Int):Tryz.prog.built 53 [(0,.int .i64 s),(1,.int .i64 f)]=some (tbC (endP s f)):=by kernel_rfl
theorem zhK {ops:Array Oper} {rest:List Oper} {o:Oper} {a:Act} {w:World} {Q:Exit→Act→World→Prop} (hgd:o.guard=none) (x y:Operand) (ho:o.op = .build 53 #[(0,x),(1,y)]) (s f:Int) (hx:a.eval x = .int .i64 s) (hy:a.eval y = .int .i64 f)
  (hk:wpList Tryz.prog ops Q rest (a.put o.dst (.agg (tbC (endP s f)))) w):wpList Tryz.prog ops Q (o::rest) a w:=by
 refine wpList_plain hgd fun K hK'=>?_
 unfold Oper.wp execOp
 simp only [ho,List.map_toArray,List.map_cons,List.map_nil,hx,hy,Sem.run_bind,run_build w _ _ _ (zsE s f),Result.andThen_ok,Sem.run_pure]
 exact hK' _ _ hk
theorem zvd (w:World) (lo hi:Nat) (s f:Int):mTb w lo hi (endP s f)∧wTb (endP s f):=⟨⟨AtG.nil _ _ _ _,AtG.nil _ _ _ _,Nat.le_refl _,Nat.le_refl _⟩,zvc s f⟩
theorem zfg (g:Nat) (s f:Int):FitU (endV g s f)∧FitS (endV g s f):=by
 have h1:FitT (endP s f):=⟨Nat.zero_le _,Nat.zero_le _,fun m hm=>by cases hm⟩
 have h9:Fit9 (endV g s f).at_:=⟨Nat.zero_le _,(fun x hx=>by cases hx),Nat.zero_le _,Nat.zero_le _,Nat.zero_le _⟩
 refine ⟨⟨fun _=>h9,(fun x hx=>by cases hx),fun x hx=>by rw [List.mem_singleton.1 hx];exact h1⟩,⟨h9,Nat.zero_le _,(by show 1≤1000000000;decide),(fun x hx=>by cases hx),fun x hx=>by rw [List.mem_singleton.1 hx];exact ⟨Nat.zero_le _,Nat.zero_le _⟩⟩⟩
set_option maxRecDepth 20000 in
set_option maxHeartbeats 8000000 in
theorem zoP (w:World) (hg:Glob10 w) (s:Int) (_hs : -9223372036854775808≤s∧s≤9223372036854775807) (f:Int) (_hf : -9223372036854775808≤f∧f≤9223372036854775807) :
  Calls Tryz.prog 6 #[.int .i64 s,.int .i64 f] w fun e w'=>e = .returned (.bool true)∧Below w.heap.size w w':=by
 have HN:=hide hg.1
 have HK:=hide hg.2
 clear hg
 go_enter Tryz.func6,Tryz.ntmps6
 go_wp2_with fail
 refine (zmF w HN.out HK.out).mono ?_
 rintro e w1 ⟨rfl,hb1⟩
 have W1:=hide hb1
 clear hb1
 go_wp2_with fail
 refine (zfs w1).mono ?_
 rintro e w2 ⟨rfl,hb2⟩
 have W2:=hide (zaa W1.out hb2 (Nat.le_refl _))
 have NEW:=hide (Blk.new w2 33 zUpd)
 clear hb2 W1
 go_wp2_with (refine zas rfl (.tmp 6) (.tmp 14) rfl w2.heap.size rfl zcY rfl zcD NEW.out rfl ?_;intro w3 hb3 hg3;have K3:=hide hb3;have W23:Hid (Below w2.heap.size w2 w3):=hide (((Below.refl _ _).alloc (Nat.le_refl _) _).grown hg3 (by simp) (by simp));clear hb3 hg3;refine Hid.out ?_)
 refine hide ?_
 have W3:=hide (zaa W2.out W23.out (Nat.le_refl _))
 have HZ3:=hide K3.out.lt
 have hz3:w2.heap.size<w3.heap.size:=K3.out.lt
 obtain ⟨gb,hgb⟩:∃ gb,w2.heap.size=gb:=⟨_,rfl⟩
 have HGB:Hid (w.heap.size≤gb):=hide (by rw [← hgb];exact W2.out.size)
 rw [hgb] at K3 hz3 ⊢
 have k25:w3.cell? ⟨gb,25,none⟩=some (.slice none 0 0):=by
  rw [K3.out.cell];unfold updC;rw [List.getElem?_toArray];exact zf2 (u:=zcY) rfl
 have f25:=K3.out.frozen 25
 have K4:Hid (Blk (w3.setCell ⟨gb,25,none⟩ (.slice (some ⟨w3.heap.size,0,none⟩) 1 1)) gb 33 (updC (endV w3.heap.size s f))):=hide (by
  have h1:=K3.out.set_ 25 (.slice (some ⟨w3.heap.size,0,none⟩) 1 1)
  rw [zih (U:=zcY) rfl (some ⟨w3.heap.size,0,none⟩) 1 1 [endP s f]] at h1
  exact h1)
 have e4:(w3.setCell ⟨gb,25,none⟩ (.slice (some ⟨w3.heap.size,0,none⟩) 1 1)).heap.size=w3.heap.size:=by simp [World.setCell]
 have W4:=hide (zcE W3.out (p:=⟨gb,25,none⟩) HGB.out (.slice (some ⟨w3.heap.size,0,none⟩) 1 1))
 have K5:=hide (K4.out.alloc (.cells (tbC (endP s f)) 53))
 have hD:=Blk.new (w3.setCell ⟨gb,25,none⟩ (.slice (some ⟨w3.heap.size,0,none⟩) 1 1)) 53 (tbC (endP s f))
 rw [e4] at hD
 have D5:=hide hD
 have W5:=hide (W4.out.alloc W4.out.size (.cells (tbC (endP s f)) 53))
 have hz5:w3.heap.size+1≤((w3.setCell ⟨gb,25,none⟩ (.slice (some ⟨w3.heap.size,0,none⟩) 1 1)).alloc (.cells (tbC (endP s f)) 53)).heap.size:=by
  have h1:=D5.out.lt
  exact h1
 clear hD e4
 have V5:Hid (UpAt ((w3.setCell ⟨gb,25,none⟩ (.slice (some ⟨w3.heap.size,0,none⟩) 1 1)).alloc (.cells (tbC (endP s f)) 53)) w3.heap.size (w3.heap.size+1) (endV w3.heap.size s f)):=hide ⟨zga _ _ _,RowE.nil _ _ _ _,⟨AtG.one (x:=endP s f) D5.out,fun y hy=>by rw [List.mem_singleton.1 hy];exact (zvd _ _ _ s f).1,fun y hy=>by rw [List.mem_singleton.1 hy];exact (zvd w 0 0 s f).2⟩,Nat.le_refl _,Nat.le_refl _⟩
 have RG5:=hide (zah (l:=updL (endV w3.heap.size s f)) K5.out)
 clear NEW W2 W23 W3 K3 K4 W4 D5
 go_wp2_with (first
  | (with_reducible refine zhK rfl (.tmp 15) (.tmp 16) rfl s f rfl rfl ?_)
  | ((with_reducible refine zcL ?_ (.tmp 17) rfl (endP s f) rfl rfl ?_);· rfl)
  | ((with_reducible refine zat ?_ (.tmp 6) rfl gb 0 rfl (endV w3.heap.size s f) RG5.out rfl ?_);· rfl))
 generalize (w3.setCell ⟨gb,25,none⟩ (.slice (some ⟨w3.heap.size,0,none⟩) 1 1)).alloc (.cells (tbC (endP s f)) 53)=w5 at *
 generalize w3.heap.size=gt at *
 refine (zlp w5 _ _ (endV gt s f) V5.out hz5 (zfg gt s f).1 (HN.out.below W5.out) (HK.out.below W5.out)).mono ?_
 rw [zfj]
 unfold zh6
 by_cases hk:zdi s f=true
 ·obtain ⟨hs,hf⟩:(s=4∨s=16)∧(f=5∨f=128):=by unfold zdi at hk;simpa using hk
  obtain ⟨he,hl⟩:=zwD hs hf
  obtain ⟨_,_,_,hob⟩:=zj5 he
  have HE:=hide he
  have HOB:=hide hob
  rw [he,hl]
  rintro e w6 ⟨v6,rfl,ho6,hb6⟩
  obtain ⟨A6,c6,rfl,_,_⟩:=zad ho6
  have T6:=hide (At.own ho6)
  have K6:=hide (K5.out.over hb6)
  have V6:=hide (V5.out.below (hb6.mono hz5))
  have W6:=hide (zaa W5.out hb6 (Nat.le_refl _))
  have hz6:gt+1≤w6.heap.size:=Nat.le_trans hz5 hb6.size
  clear ho6 hb6 K5 V5 W5 RG5 he hl hob hk
  rcases hs with rfl | rfl <;> rcases hf with rfl | rfl
  ·go_wp2_with fail
   refine (zeh w6 _ _ A6 10 c6 (endU 4 5) (zoz _ _) (fun t ht=>by cases ht) HE.out (by rw [← HOB.out];exact T6.out) (Nat.le_refl _) (by decide) (HN.out.below W6.out) (HK.out.below W6.out)).mono ?_
   rintro e w7 ⟨U,rfl,hu7,hup7,hb7⟩
   have UOB:=hu7.ob
   have U7:=hide hu7
   have UP:=hide hup7
   have W7:=hide (zaa W6.out hb7 (Nat.le_refl _))
   have K7:=hide (K6.out.over hb7)
   have V7:=hide (V6.out.below (hb7.mono hz6))
   have hz7:=hb7.size
   have e1:(w7.alloc (.cells zUpd 33)).heap.size=w7.heap.size+1:=by simp
   have M0:=Blk.new (w7.alloc (.cells zUpd 33)) 41 zdC
   rw [e1] at M0
   have NEWU:=hide ((Blk.new w7 33 zUpd).alloc (.cells zdC 41))
   have NEWN:=hide M0
   have W8:Hid (Below w7.heap.size w7 ((w7.alloc (.cells zUpd 33)).alloc (.cells zdC 41))):=hide (((Below.refl _ _).alloc (Nat.le_refl _) _).alloc (by rw [e1];omega) _)
   clear hu7 hup7 hb7 M0 e1 K6 V6 W6 T6
   go_wp2_with (refine zas rfl (.tmp 10) (.tmp 54) rfl w7.heap.size rfl U rfl UOB NEWU.out rfl ?_;intro w8 hb8 hg8;have K8:=hide hb8;have HG8:=hide hg8;have N8:=hide (NEWN.out.grown hg8 (by simp));clear hb8 hg8;refine Hid.out ?_)
   refine hide ?_
   go_wp2_with (refine zaI rfl (.tmp 12) (.tmp 56) rfl (w7.heap.size+1) rfl 0 0 rfl N8.out rfl ?_;intro w9 hb9 hg9;have K9:=hide hb9;have HG9:=hide hg9;have KU9:=hide (K8.out.grown hg9 (by simp));clear hb9 hg9;refine Hid.out ?_)
   refine hide ?_
   have W9:Hid (Below w7.heap.size w7 w9):=hide ((W8.out.grown HG8.out W8.out.size (fun k hk=>by injection hk;omega)).grown HG9.out (Nat.le_trans W8.out.size HG8.out.size) (fun k hk=>by injection hk;omega))
   have U9:=hide (U7.out.below W9.out)
   have V9:=hide (V7.out.below (W9.out.mono (Nat.le_trans hz6 hz7)))
   have KE9:=hide (K7.out.over W9.out)
   have WW9:=hide (zaa W7.out W9.out (Nat.le_refl _))
   have hz9:=W9.out.size
   have R9:=hide (zah (l:=updL (endV gt 4 5)) KE9.out)
   have RU9:=hide (zah (l:=updL U) KU9.out)
   have n0:w9.cell? ⟨w7.heap.size+1,0,none⟩=some (.int .i64 0):=K9.out.cell 0
   have HSU:Hid (zfI (endV gt 4 5).up U.up=true):=hide (by rw [UP.out,zfj];unfold zfI;rw [zd5];simp)
   clear K8 HG8 N8 HG9 NEWU NEWN W8 U7 V7 K7 W7 KE9 KU9 K9
   go_wp2_with (first
    | ((with_reducible refine zat ?_ (.tmp 6) rfl gb 0 rfl (endV gt 4 5) R9.out rfl ?_);· rfl)
    | ((with_reducible refine zat ?_ (.tmp 10) rfl w7.heap.size 0 rfl U RU9.out UOB ?_);· rfl))
   refine (zgl w9 _ _ _ _ (endV gt 4 5) U V9.out U9.out (by omega) hz9 (zfg gt _ _).2).mono ?_
   rw [HSU.out]
   rintro e w10 ⟨rfl,hb10⟩
   go_wp2
   go_ret
   exact ⟨rfl,zaa WW9.out hb10 (Nat.le_refl _)⟩
  ·go_wp2_with fail
   refine (zeh w6 _ _ A6 10 c6 (endU 4 128) (zoz _ _) (fun t ht=>by cases ht) HE.out (by rw [← HOB.out];exact T6.out) (Nat.le_refl _) (by decide) (HN.out.below W6.out) (HK.out.below W6.out)).mono ?_
   rintro e w7 ⟨U,rfl,hu7,hup7,hb7⟩
   have UOB:=hu7.ob
   have U7:=hide hu7
   have UP:=hide hup7
   have W7:=hide (zaa W6.out hb7 (Nat.le_refl _))
   have K7:=hide (K6.out.over hb7)
   have V7:=hide (V6.out.below (hb7.mono hz6))
   have hz7:=hb7.size
   have e1:(w7.alloc (.cells zUpd 33)).heap.size=w7.heap.size+1:=by simp
   have M0:=Blk.new (w7.alloc (.cells zUpd 33)) 41 zdC
   rw [e1] at M0
   have NEWU:=hide ((Blk.new w7 33 zUpd).alloc (.cells zdC 41))
   have NEWN:=hide M0
   have W8:Hid (Below w7.heap.size w7 ((w7.alloc (.cells zUpd 33)).alloc (.cells zdC 41))):=hide (((Below.refl _ _).alloc (Nat.le_refl _) _).alloc (by rw [e1];omega) _)
   clear hu7 hup7 hb7 M0 e1 K6 V6 W6 T6
   go_wp2_with (refine zas rfl (.tmp 10) (.tmp 54) rfl w7.heap.size rfl U rfl UOB NEWU.out rfl ?_;intro w8 hb8 hg8;have K8:=hide hb8;have HG8:=hide hg8;have N8:=hide (NEWN.out.grown hg8 (by simp));clear hb8 hg8;refine Hid.out ?_)
   refine hide ?_
   go_wp2_with (refine zaI rfl (.tmp 12) (.tmp 56) rfl (w7.heap.size+1) rfl 0 0 rfl N8.out rfl ?_;intro w9 hb9 hg9;have K9:=hide hb9;have HG9:=hide hg9;have KU9:=hide (K8.out.grown hg9 (by simp));clear hb9 hg9;refine Hid.out ?_)
   refine hide ?_
   have W9:Hid (Below w7.heap.size w7 w9):=hide ((W8.out.grown HG8.out W8.out.size (fun k hk=>by injection hk;omega)).grown HG9.out (Nat.le_trans W8.out.size HG8.out.size) (fun k hk=>by injection hk;omega))
   have U9:=hide (U7.out.below W9.out)
   have V9:=hide (V7.out.below (W9.out.mono (Nat.le_trans hz6 hz7)))
   have KE9:=hide (K7.out.over W9.out)
   have WW9:=hide (zaa W7.out W9.out (Nat.le_refl _))
   have hz9:=W9.out.size
   have R9:=hide (zah (l:=updL (endV gt 4 128)) KE9.out)
   have RU9:=hide (zah (l:=updL U) KU9.out)
   have n0:w9.cell? ⟨w7.heap.size+1,0,none⟩=some (.int .i64 0):=K9.out.cell 0
   have HSU:Hid (zfI (endV gt 4 128).up U.up=true):=hide (by rw [UP.out,zfj];unfold zfI;rw [zd5];simp)
   clear K8 HG8 N8 HG9 NEWU NEWN W8 U7 V7 K7 W7 KE9 KU9 K9
   go_wp2_with (first
    | ((with_reducible refine zat ?_ (.tmp 6) rfl gb 0 rfl (endV gt 4 128) R9.out rfl ?_);· rfl)
    | ((with_reducible refine zat ?_ (.tmp 10) rfl w7.heap.size 0 rfl U RU9.out UOB ?_);· rfl))
   refine (zgl w9 _ _ _ _ (endV gt 4 128) U V9.out U9.out (by omega) hz9 (zfg gt _ _).2).mono ?_
   rw [HSU.out]
   rintro e w10 ⟨rfl,hb10⟩
   go_wp2
   go_ret
   exact ⟨rfl,zaa WW9.out hb10 (Nat.le_refl _)⟩
  ·go_wp2_with fail
   refine (zeh w6 _ _ A6 10 c6 (endU 16 5) (zoz _ _) (fun t ht=>by cases ht) HE.out (by rw [← HOB.out];exact T6.out) (Nat.le_refl _) (by decide) (HN.out.below W6.out) (HK.out.below W6.out)).mono ?_
   rintro e w7 ⟨U,rfl,hu7,hup7,hb7⟩
   have UOB:=hu7.ob
   have U7:=hide hu7
   have UP:=hide hup7
   have W7:=hide (zaa W6.out hb7 (Nat.le_refl _))
   have K7:=hide (K6.out.over hb7)
   have V7:=hide (V6.out.below (hb7.mono hz6))
   have hz7:=hb7.size
   have e1:(w7.alloc (.cells zUpd 33)).heap.size=w7.heap.size+1:=by simp
   have M0:=Blk.new (w7.alloc (.cells zUpd 33)) 41 zdC
   rw [e1] at M0
   have NEWU:=hide ((Blk.new w7 33 zUpd).alloc (.cells zdC 41))
   have NEWN:=hide M0
   have W8:Hid (Below w7.heap.size w7 ((w7.alloc (.cells zUpd 33)).alloc (.cells zdC 41))):=hide (((Below.refl _ _).alloc (Nat.le_refl _) _).alloc (by rw [e1];omega) _)
   clear hu7 hup7 hb7 M0 e1 K6 V6 W6 T6
   go_wp2_with (refine zas rfl (.tmp 10) (.tmp 54) rfl w7.heap.size rfl U rfl UOB NEWU.out rfl ?_;intro w8 hb8 hg8;have K8:=hide hb8;have HG8:=hide hg8;have N8:=hide (NEWN.out.grown hg8 (by simp));clear hb8 hg8;refine Hid.out ?_)
   refine hide ?_
   go_wp2_with (refine zaI rfl (.tmp 12) (.tmp 56) rfl (w7.heap.size+1) rfl 0 0 rfl N8.out rfl ?_;intro w9 hb9 hg9;have K9:=hide hb9;have HG9:=hide hg9;have KU9:=hide (K8.out.grown hg9 (by simp));clear hb9 hg9;refine Hid.out ?_)
   refine hide ?_
   have W9:Hid (Below w7.heap.size w7 w9):=hide ((W8.out.grown HG8.out W8.out.size (fun k hk=>by injection hk;omega)).grown HG9.out (Nat.le_trans W8.out.size HG8.out.size) (fun k hk=>by injection hk;omega))
   have U9:=hide (U7.out.below W9.out)
   have V9:=hide (V7.out.below (W9.out.mono (Nat.le_trans hz6 hz7)))
   have KE9:=hide (K7.out.over W9.out)
   have WW9:=hide (zaa W7.out W9.out (Nat.le_refl _))
   have hz9:=W9.out.size
   have R9:=hide (zah (l:=updL (endV gt 16 5)) KE9.out)
   have RU9:=hide (zah (l:=updL U) KU9.out)
   have n0:w9.cell? ⟨w7.heap.size+1,0,none⟩=some (.int .i64 0):=K9.out.cell 0
   have HSU:Hid (zfI (endV gt 16 5).up U.up=true):=hide (by rw [UP.out,zfj];unfold zfI;rw [zd5];simp)
   clear K8 HG8 N8 HG9 NEWU NEWN W8 U7 V7 K7 W7 KE9 KU9 K9
   go_wp2_with (first
    | ((with_reducible refine zat ?_ (.tmp 6) rfl gb 0 rfl (endV gt 16 5) R9.out rfl ?_);· rfl)
    | ((with_reducible refine zat ?_ (.tmp 10) rfl w7.heap.size 0 rfl U RU9.out UOB ?_);· rfl))
   refine (zgl w9 _ _ _ _ (endV gt 16 5) U V9.out U9.out (by omega) hz9 (zfg gt _ _).2).mono ?_
   rw [HSU.out]
   rintro e w10 ⟨rfl,hb10⟩
   go_wp2
   go_ret
   exact ⟨rfl,zaa WW9.out hb10 (Nat.le_refl _)⟩
  ·go_wp2_with fail
   refine (zeh w6 _ _ A6 10 c6 (endU 16 128) (zoz _ _) (fun t ht=>by cases ht) HE.out (by rw [← HOB.out];exact T6.out) (Nat.le_refl _) (by decide) (HN.out.below W6.out) (HK.out.below W6.out)).mono ?_
   rintro e w7 ⟨U,rfl,hu7,hup7,hb7⟩
   have UOB:=hu7.ob
   have U7:=hide hu7
   have UP:=hide hup7
   have W7:=hide (zaa W6.out hb7 (Nat.le_refl _))
   have K7:=hide (K6.out.over hb7)
   have V7:=hide (V6.out.below (hb7.mono hz6))
   have hz7:=hb7.size
   have e1:(w7.alloc (.cells zUpd 33)).heap.size=w7.heap.size+1:=by simp
   have M0:=Blk.new (w7.alloc (.cells zUpd 33)) 41 zdC
   rw [e1] at M0
   have NEWU:=hide ((Blk.new w7 33 zUpd).alloc (.cells zdC 41))
   have NEWN:=hide M0
   have W8:Hid (Below w7.heap.size w7 ((w7.alloc (.cells zUpd 33)).alloc (.cells zdC 41))):=hide (((Below.refl _ _).alloc (Nat.le_refl _) _).alloc (by rw [e1];omega) _)
   clear hu7 hup7 hb7 M0 e1 K6 V6 W6 T6
   go_wp2_with (refine zas rfl (.tmp 10) (.tmp 54) rfl w7.heap.size rfl U rfl UOB NEWU.out rfl ?_;intro w8 hb8 hg8;have K8:=hide hb8;have HG8:=hide hg8;have N8:=hide (NEWN.out.grown hg8 (by simp));clear hb8 hg8;refine Hid.out ?_)
   refine hide ?_
   go_wp2_with (refine zaI rfl (.tmp 12) (.tmp 56) rfl (w7.heap.size+1) rfl 0 0 rfl N8.out rfl ?_;intro w9 hb9 hg9;have K9:=hide hb9;have HG9:=hide hg9;have KU9:=hide (K8.out.grown hg9 (by simp));clear hb9 hg9;refine Hid.out ?_)
   refine hide ?_
   have W9:Hid (Below w7.heap.size w7 w9):=hide ((W8.out.grown HG8.out W8.out.size (fun k hk=>by injection hk;omega)).grown HG9.out (Nat.le_trans W8.out.size HG8.out.size) (fun k hk=>by injection hk;omega))
   have U9:=hide (U7.out.below W9.out)
   have V9:=hide (V7.out.below (W9.out.mono (Nat.le_trans hz6 hz7)))
   have KE9:=hide (K7.out.over W9.out)
   have WW9:=hide (zaa W7.out W9.out (Nat.le_refl _))
   have hz9:=W9.out.size
   have R9:=hide (zah (l:=updL (endV gt 16 128)) KE9.out)
   have RU9:=hide (zah (l:=updL U) KU9.out)
   have n0:w9.cell? ⟨w7.heap.size+1,0,none⟩=some (.int .i64 0):=K9.out.cell 0
   have HSU:Hid (zfI (endV gt 16 128).up U.up=true):=hide (by rw [UP.out,zfj];unfold zfI;rw [zd5];simp)
   clear K8 HG8 N8 HG9 NEWU NEWN W8 U7 V7 K7 W7 KE9 KU9 K9
   go_wp2_with (first
    | ((with_reducible refine zat ?_ (.tmp 6) rfl gb 0 rfl (endV gt 16 128) R9.out rfl ?_);· rfl)
    | ((with_reducible refine zat ?_ (.tmp 10) rfl w7.heap.size 0 rfl U RU9.out UOB ?_);· rfl))
   refine (zgl w9 _ _ _ _ (endV gt 16 128) U V9.out U9.out (by omega) hz9 (zfg gt _ _).2).mono ?_
   rw [HSU.out]
   rintro e w10 ⟨rfl,hb10⟩
   go_wp2
   go_ret
   exact ⟨rfl,zaa WW9.out hb10 (Nat.le_refl _)⟩
 ·have hk':zdi s f=false:=by cases hq:zdi s f;rfl;exact absurd hq hk
  obtain ⟨hnr,hne⟩:=end_no hk'
  have HNR:=hide hnr
  rw [hne]
  rintro e w6 ⟨v6,rfl,ho6,hb6⟩
  obtain ⟨A6,c6,rfl,_,_⟩:=zad ho6
  have K6:=hide (K5.out.over hb6)
  have V6:=hide (V5.out.below (hb6.mono hz5))
  have W6:=hide (zaa W5.out hb6 (Nat.le_refl _))
  have hz6:gt+1≤w6.heap.size:=Nat.le_trans hz5 hb6.size
  have R6:=hide (zah (l:=updL (endV gt s f)) K6.out)
  have hcond:¬ ((s=4∨s=16)∧(f=5∨f=128)):=fun h=>hk (by unfold zdi;simp [h.1,h.2])
  clear ho6 hb6 K5 V5 W5 RG5 hnr hne hk hk' K6
  by_cases h4:s=4
  ·subst h4
   have f5:¬ f=5:=fun h=>hcond ⟨.inl rfl,.inl h⟩
   have f8:¬ f=128:=fun h=>hcond ⟨.inl rfl,.inr h⟩
   have b5:(f==5)=false:=beq_eq_false_iff_ne.2 f5
   have b8:(f==128)=false:=beq_eq_false_iff_ne.2 f8
   clear hcond
   go_wp2_with ((with_reducible refine zat ?_ (.tmp 6) rfl gb 0 rfl (endV gt 4 f) R6.out rfl ?_);· rfl)
   refine (zft w6 _ _ (endV gt 4 f) V6.out hz6 (zfg gt _ _).1 (HN.out.below W6.out)).mono ?_
   rw [zfj,HNR.out]
   rintro e w7 ⟨rfl,hb7⟩
   go_wp2
   go_ret
   exact ⟨rfl,zaa W6.out hb7 (Nat.le_refl _)⟩
  ·by_cases h16:s=16
   ·subst h16
    have f5:¬ f=5:=fun h=>hcond ⟨.inr rfl,.inl h⟩
    have f8:¬ f=128:=fun h=>hcond ⟨.inr rfl,.inr h⟩
    have b5:(f==5)=false:=beq_eq_false_iff_ne.2 f5
    have b8:(f==128)=false:=beq_eq_false_iff_ne.2 f8
    clear hcond h4
    go_wp2_with ((with_reducible refine zat ?_ (.tmp 6) rfl gb 0 rfl (endV gt 16 f) R6.out rfl ?_);· rfl)
    refine (zft w6 _ _ (endV gt 16 f) V6.out hz6 (zfg gt _ _).1 (HN.out.below W6.out)).mono ?_
    rw [zfj,HNR.out]
    rintro e w7 ⟨rfl,hb7⟩
    go_wp2
    go_ret
    exact ⟨rfl,zaa W6.out hb7 (Nat.le_refl _)⟩
   ·have b4:(s==4)=false:=beq_eq_false_iff_ne.2 h4
    have b16:(s==16)=false:=beq_eq_false_iff_ne.2 h16
    clear hcond
    go_wp2_with ((with_reducible refine zat ?_ (.tmp 6) rfl gb 0 rfl (endV gt s f) R6.out rfl ?_);· rfl)
    refine (zft w6 _ _ (endV gt s f) V6.out hz6 (zfg gt _ _).1 (HN.out.below W6.out)).mono ?_
    rw [zfj,HNR.out]
    rintro e w7 ⟨rfl,hb7⟩
    go_wp2
    go_ret
    exact ⟨rfl,zaa W6.out hb7 (Nat.le_refl _)⟩
end
end Go.Proofs.YtookpplebikfnaaGreatDoor
