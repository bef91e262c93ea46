/-
  The small case of layer 10's statements comes out right. The one condition: the tables hold what their texts lay.
  UpdateBack, walked: it returns true, whatever comes in.
-/
import Derived.Test.YtookpplebikfnaaGreatDoorKUBQ
set_option linter.unusedVariables false
set_option linter.unusedSimpArgs false
namespace Go.Proofs.YtookpplebikfnaaGreatDoor
section
open Go.RowKit
def zq6:Tb:=⟨4,5,0,zau,[],[]⟩
def zq5:Up:=⟨zb4,[],[zq6]⟩
def zpl:List UInt8:=[0,0,0,6,128,15,3,0,1,5]
def zmZ:List UInt8:=[0,0,0,3,128,15,0]
def zq7:Rw:=⟨128,15,[]⟩
theorem none_W:zb4.W:=⟨rfl,(fun x hx=>by cases hx),(fun x hx=>by cases hx)⟩
theorem zwa:zq6.W:=⟨rfl,(fun x hx=>by cases hx),(fun x hx=>by cases hx)⟩
theorem zv9:UpW zq5:=⟨none_W,(fun t ht=>by cases ht),(fun t ht=>by rw [List.mem_singleton.1 ht];exact zwa)⟩
theorem zq9:zgR zq5=zpl:=by kernel_rfl
theorem zoj:ze0 zq5=0:=by kernel_rfl
theorem ztR:zju zq5=zpl:=by kernel_rfl
theorem zjS:zdQ zmZ=true:=by kernel_rfl
theorem zq8:(zdv (ownB zmZ)).1=[zq7]:=by kernel_rfl
theorem ziA:tabs [zq7]=([],[],3):=by kernel_rfl
theorem ztl (w:World) (t:TypeId) (bs:List UInt8):At (w.alloc (.cells (bvs bs).toArray t)) w.heap.size (w.heap.size+1) (some ⟨w.heap.size,0,none⟩) bs.length bs:=by
 have hB:=Blk.new w t (bvs bs).toArray
 exact ⟨rfl,fun _=>⟨_,0,rfl,Nat.le_refl _,by omega,fun j u hu=>by rw [Nat.zero_add,hB.cell];simp [bvs,hu]⟩⟩
theorem zwb (w:World) (lo hi:Nat) (A:Option Addr) (n c:Nat) (h:At w lo hi A n zmZ) (hh:hi≤w.heap.size) (hn:n≤140737488355328) (hN:zaQ w) (hK:zc1 w) :
  Calls Tryz.prog 11 #[.slice A n c] w fun e w'=>∃ U:UpP,e = .returned (.tuple #[.agg (updC U),.int .i64 3,.agg (zf9 3 9)])∧U.at_.ob.length=16∧Below w.heap.size w w':=by
 refine (zlw w lo hi A n c zmZ h hh hn hN hK [] [zq7] zjS zq8 (by decide) (by simp) (fun y hy=>by rw [List.mem_singleton.1 hy];exact ⟨.inr rfl,rfl⟩) (fun i hi=>by cases hi) (fun i hi=>by cases hi) (fun x hx=>by rw [List.mem_singleton.1 hx];decide) (fun l hl=>?_)).mono ?_
 ·unfold finO
  refine if_neg (fun h=>?_)
  have h1:=h.1
  have:cntK 14 l=0:=by
   unfold cntK
   rw [List.length_eq_zero_iff,List.filter_eq_nil_iff]
   intro x hx
   have h3:x.raw∈[zq7]:=by
    have e:l.map RawP.raw=[zq7]:=hl
    rw [← e];exact List.mem_map.2 ⟨x,hx,rfl⟩
   have h5:x.k=15:=congrArg Rw.k (List.mem_singleton.1 h3)
   simp [h5]
  omega
 ·rintro e w' ⟨U,o,nc,ns,rfl,hu,ho,hb⟩
  have key:o=3∧nc=3∧ns=9:=by
   generalize U.up=V at ho
   cases ho with
   | torn h1=>exact absurd (zjS.symm.trans h1) (by decide)
   | reset a rest s _ h2=>exact absurd h2.2.2 (by decide)
   | table a rest o _ h2 _ h4=>exact ⟨rfl,rfl,rfl⟩
   | held a rest o _ h2 _ h4 =>
    obtain ⟨_,rfl,rfl⟩:=h2
    rw [ziA] at h4
    exact absurd h4 (by decide)
   | reach a rest o m _ h2 _ h4 h5 _ _ =>
    obtain ⟨_,rfl,rfl⟩:=h2
    rw [ziA] at h4
    exact absurd h4.symm h5
   | none a rest o m _ h2 _ h4 h5 _ _ =>
    obtain ⟨_,rfl,rfl⟩:=h2
    rw [ziA] at h4
    exact absurd h4.symm h5
  obtain ⟨rfl,rfl,rfl⟩:=key
  exact ⟨U,rfl,hu.ob,hb⟩
theorem zuQ {p:AtP} {w:World} {lo hi:Nat} (h:zat w lo hi p) (e:p.ats=zb4):Fit9 p:=by
 have e1:(p.path.map SgP.sg).length=0:=congrArg (fun a:Ats=>a.path.length) e
 have e2:p.cl.length=0:=congrArg (fun a:Ats=>a.cl.length) e
 have e3:p.ex.length=0:=congrArg (fun a:Ats=>a.ex.length) e
 have e4:(p.tl.map TnP.tun).length=0:=congrArg (fun a:Ats=>a.tn.length) e
 rw [List.length_map] at e1 e4
 have a1:=h.path.len
 have a2:=h.cl.len
 have a3:=h.ex.len
 have a4:=h.tl.len
 refine ⟨by omega,fun x hx=>?_,by omega,by omega,by omega⟩
 rw [List.eq_nil_of_length_eq_zero e1] at hx
 cases hx
theorem fit_sm {w:World} {lo hi:Nat} {U:UpP} (h:UpAt w lo hi U) (e:U.ne.map TbP.tb=[zq6]∧U.re.map TbP.tb=[]∧U.at_.ats=zb4):FitU U:=by
 refine ⟨fun _=>zuQ h.at_ e.2.2,fun x hx=>?_,fun x hx=>?_⟩
 ·have h1:x.tb∈U.re.map TbP.tb:=List.mem_map.2 ⟨x,hx,rfl⟩
  rw [e.2.1] at h1
  cases h1
 ·have h1:x.tb∈U.ne.map TbP.tb:=List.mem_map.2 ⟨x,hx,rfl⟩
  rw [e.1] at h1
  have h2:=List.mem_singleton.1 h1
  have g1:x.ms=[]:=congrArg Tb.ms h2
  have g2:x.us=[]:=congrArg Tb.us h2
  have g3:=(h.ne.mem x hx).1.len
  have g4:=(h.ne.mem x hx).2.1.len
  rw [g1] at g3
  rw [g2] at g4
  have g5:0=x.mn:=g3
  have g6:0=x.un:=g4
  exact ⟨by omega,by omega,fun m hm=>by rw [g1] at hm;cases hm⟩
set_option maxRecDepth 20000 in
set_option maxHeartbeats 4000000 in
theorem zmS (w:World) (hN:zaQ w) (hK:zc1 w):Calls Tryz.prog 7 #[] w fun e w'=>e = .returned (.bool true)∧Below w.heap.size w w':=by
 have HN:=hide hN
 have HK:=hide hK
 have T0:=hide (ztl w 5 zpl)
 have B0:Hid (Below w.heap.size w (w.alloc (.cells (bvs zpl).toArray 5))):=hide ((Below.refl _ _).alloc (Nat.le_refl _) _)
 have hb9:(bvs zpl).toArray=#[.int .u8 0,.int .u8 0,.int .u8 0,.int .u8 6,.int .u8 128,.int .u8 15,.int .u8 3,.int .u8 0,.int .u8 1,.int .u8 5]:=by kernel_rfl
 rw [hb9] at T0 B0
 clear hN hK hb9
 go_enter Tryz.func7,Tryz.ntmps7
 go_wp2_with fail
 refine (zjM _ _ _ (some ⟨w.heap.size,0,none⟩) 10 10 zq5 zv9 (fun t ht=>by cases ht) zoj (by rw [zq9];exact T0.out) (by simp) (by decide) (HN.out.below B0.out) (HK.out.below B0.out)).mono ?_
 rintro e w1 ⟨U,rfl,hu1,hup1,hb1⟩
 have UOB:=hu1.ob
 have U1:=hide hu1
 have UP:=hide hup1
 have W1:=hide (zaa B0.out hb1 (by simp))
 have e1:(w1.alloc (.cells zUpd 33)).heap.size=w1.heap.size+1:=by simp
 have M0:=Blk.new (w1.alloc (.cells zUpd 33)) 41 zdN
 rw [e1] at M0
 have NEWU:=hide ((Blk.new w1 33 zUpd).alloc (.cells zdN 41))
 have NEWN:=hide M0
 have W2:Hid (Below w1.heap.size w1 ((w1.alloc (.cells zUpd 33)).alloc (.cells zdN 41))):=hide (((Below.refl _ _).alloc (Nat.le_refl _) _).alloc (by rw [e1];omega) _)
 clear hu1 hup1 hb1 T0 B0 M0 e1
 go_wp2_with (refine zaw rfl (.tmp 1) (.tmp 12) rfl w1.heap.size rfl U rfl UOB NEWU.out rfl ?_;intro w2 hb2 hg2;have K2:=hide hb2;have HG2:=hide hg2;have N2:=hide (NEWN.out.grown hg2 (by simp));clear hb2 hg2;refine Hid.out ?_)
 refine hide ?_
 go_wp2_with (refine zaX rfl (.tmp 3) (.tmp 14) rfl (w1.heap.size+1) rfl 0 0 rfl N2.out rfl ?_;intro w3 hb3 hg3;have K3:=hide hb3;have HG3:=hide hg3;have KU3:=hide (K2.out.grown hg3 (by simp));clear hb3 hg3;refine Hid.out ?_)
 refine hide ?_
 have W3:Hid (Below w1.heap.size w1 w3):=hide ((W2.out.grown HG2.out W2.out.size (fun k hk=>by injection hk;omega)).grown HG3.out (Nat.le_trans W2.out.size HG2.out.size) (fun k hk=>by injection hk;omega))
 have U3:=hide (U1.out.below W3.out)
 have WW3:=hide (zaa W1.out W3.out (Nat.le_refl _))
 have T3:=hide (ztl w3 5 zmZ)
 have B3:Hid (Below w3.heap.size w3 (w3.alloc (.cells (bvs zmZ).toArray 5))):=hide ((Below.refl _ _).alloc (Nat.le_refl _) _)
 have hb9:(bvs zmZ).toArray=#[.int .u8 0,.int .u8 0,.int .u8 0,.int .u8 3,.int .u8 128,.int .u8 15,.int .u8 0]:=by kernel_rfl
 rw [hb9] at T3 B3
 have HZ3:=hide W3.out.size
 have N3:=hide (HN.out.below (zaa WW3.out B3.out (Nat.le_refl _)))
 have KN3:=hide (HK.out.below (zaa WW3.out B3.out (Nat.le_refl _)))
 clear K2 HG2 N2 HG3 NEWU NEWN W2 W3 U1 hb9
 go_wp2_with fail
 refine (zwb _ _ _ (some ⟨w3.heap.size,0,none⟩) 7 7 T3.out (by simp) (by decide) N3.out KN3.out).mono ?_
 rintro e w4 ⟨V,rfl,VOB,hb4⟩
 have W4:=hide (zaa B3.out hb4 (by simp))
 have e1:(w4.alloc (.cells zUpd 33)).heap.size=w4.heap.size+1:=by simp
 have M0:=Blk.new (w4.alloc (.cells zUpd 33)) 41 zdN
 rw [e1] at M0
 have NEWU:=hide ((Blk.new w4 33 zUpd).alloc (.cells zdN 41))
 have NEWN:=hide M0
 have W5:Hid (Below w4.heap.size w4 ((w4.alloc (.cells zUpd 33)).alloc (.cells zdN 41))):=hide (((Below.refl _ _).alloc (Nat.le_refl _) _).alloc (by rw [e1];omega) _)
 clear hb4 T3 B3 N3 KN3 M0 e1
 go_wp2_with (refine zaw rfl (.tmp 4) (.tmp 18) rfl w4.heap.size rfl V rfl VOB NEWU.out rfl ?_;intro w5 hb5 hg5;have HG5:=hide hg5;have N5:=hide (NEWN.out.grown hg5 (by simp));clear hb5 hg5;refine Hid.out ?_)
 refine hide ?_
 go_wp2_with (refine zaX rfl (.tmp 6) (.tmp 20) rfl (w4.heap.size+1) rfl 3 9 rfl N5.out rfl ?_;intro w6 hb6 hg6;have K6:=hide hb6;have HG6:=hide hg6;clear hb6 hg6;refine Hid.out ?_)
 refine hide ?_
 have W6:Hid (Below w3.heap.size w3 w6):=hide (zaa W4.out ((W5.out.grown HG5.out W5.out.size (fun k hk=>by injection hk;omega)).grown HG6.out (Nat.le_trans W5.out.size HG5.out.size) (fun k hk=>by injection hk;omega)) (Nat.le_refl _))
 have U6:=hide (U3.out.below (W6.out.mono HZ3.out))
 have KU6:=hide (KU3.out.over W6.out)
 have KN6:=hide (K3.out.over W6.out)
 have WW6:=hide (zaa WW3.out W6.out (Nat.le_refl _))
 have RU6:=hide (zak (l:=updL U) KU6.out)
 have HLN:Hid (U.ne.map TbP.tb=[zq6]∧U.re.map TbP.tb=[]∧U.at_.ats=zb4):=hide ⟨congrArg Up.un UP.out,congrArg Up.re UP.out,congrArg Up.at_ UP.out⟩
 have FU:=hide (fit_sm U6.out HLN.out)
 have hz6:w1.heap.size≤w6.heap.size:=Nat.le_trans HZ3.out W6.out.size
 clear HG5 N5 HG6 NEWU NEWN W5 W4 KU3 K3 U3 WW3 VOB
 go_wp2_with ((with_reducible refine zaM ?_ (.tmp 1) rfl w1.heap.size 0 rfl U RU6.out UOB ?_);· rfl)
 refine (zlx w6 _ _ U U6.out hz6 FU.out (HN.out.below WW6.out) (HK.out.below WW6.out)).mono ?_
 rw [UP.out]
 unfold zie
 rw [zoj,ztR]
 rintro e w7 ⟨v7,rfl,ho7,hb7⟩
 obtain ⟨A7,c7,rfl,_,_⟩:=zad ho7
 have T7:=hide (At.own ho7)
 have KU7:=hide (KU6.out.over hb7)
 have KN7:=hide (KN6.out.over hb7)
 have KM7:=hide (K6.out.over hb7)
 have U7:=hide (U6.out.below (hb7.mono hz6))
 have WW7:=hide (zaa WW6.out hb7 (Nat.le_refl _))
 clear ho7 hb7 KU6 KN6 K6 U6 WW6 RU6 W6
 obtain ⟨P0,rA,rn,rc,re,nA,nn,nc,ne⟩:=U
 have c25:w7.cell? ⟨w1.heap.size,25,none⟩=some (.slice nA nn nc):=by rw [KU7.out.cell];unfold updC;simpa using zg2 (u:=⟨P0,rA,rn,rc,re,nA,nn,nc,ne⟩) UOB
 have hnn:nn=1:=by
  have h1:=U7.out.ne.len
  have h2:=congrArg List.length HLN.out.1
  rw [List.length_map] at h2
  exact h1.symm.trans h2
 subst hnn
 obtain ⟨b,o,x,hA,_,_,hx,hat⟩:=U7.out.ne.row.at_ (sz:=21) (k:=0) (fun y hy=>zhW (U7.out.ne.sz y hy)) (show 0<1 by decide)
 have hxt:x.tb=zq6:=by
  have h1:=congrArg (fun l:List Tb=>l[0]?) HLN.out.1
  have hx':ne[0]?=some x:=hx
  simp only [List.getElem?_map,hx',Option.map_some] at h1
  exact Option.some.inj h1
 have hA':nA=some ⟨b,o,none⟩:=hA
 subst hA'
 have x0:w7.cell? ⟨b,o,none⟩=some (.int .i64 4):=by
  have h1:=hat 0 _ (zo9 x)
  have h2:x.s=4:=congrArg Tb.s hxt
  rw [h2] at h1
  simpa using h1
 have x1:w7.cell? ⟨b,o+1,none⟩=some (.int .i64 5):=by
  have h1:=hat 1 _ (zo8 x)
  have h2:x.f=5:=congrArg Tb.f hxt
  rw [h2] at h1
  simpa using h1
 have n0:w7.cell? ⟨w1.heap.size+1,0,none⟩=some (.int .i64 0):=KN7.out.cell 0
 have m0:w7.cell? ⟨w4.heap.size+1,0,none⟩=some (.int .i64 3):=KM7.out.cell 0
 have m1:w7.cell? ⟨w4.heap.size+1,1,none⟩=some (.int .i64 9):=KM7.out.cell 1
 clear hat hx hxt hA KU7 KN7 KM7 U7 HLN FU UP
 go_wp2_with (first
  | ((with_reducible refine zgO ?_ (.tmp 74) rfl rfl T7.out ?_);· rfl)
  | ((with_reducible refine zfH ?_ (.tmp 75) (.const (.string ⟨#[0,0,0,6,128,15,3,0,1,5]⟩)) rfl zpl [0,0,0,6,128,15,3,0,1,5] rfl rfl true (by decide) ?_);· rfl))
 go_ret
 exact ⟨rfl,WW7.out⟩
end
section
open Go.RowKit
set_option maxRecDepth 20000 in
set_option maxHeartbeats 8000000 in
theorem zly (w:World) (hg:zaQ w∧zc1 w) (u:UpP) (hA:UpAt w 0 w.heap.size u) (hf:FewS u) :
  Calls Tryz.prog 3 #[.agg (updC u)] w fun e w'=>e = .returned (.bool true)∧Below w.heap.size w w':=by
 have S0:Hid (UkS w (w.alloc (.cells (updC u) 33)) 0 w.heap.size u):=hide ⟨UpS.start hA (Nat.le_refl _),hg.1.below ((Below.refl _ _).alloc (Nat.le_refl _) _),hg.2.below ((Below.refl _ _).alloc (Nat.le_refl _) _)⟩
 have HOB:=hA.ob
 have HF:=hide hf
 have UW:=hide hA.W
 clear hA hg hf
 go_enter Tryz.func3,Tryz.ntmps3
 go_wp2_with fail
 generalize w.alloc (.cells (updC u) 33)=w0 at *
 refine (zmS w0 S0.out.n S0.out.k).mono ?_
 rintro e w1 ⟨rfl,hb1⟩
 have S1:=hide (S0.out.on hb1)
 have RG1:=hide S1.out.s.rng
 clear hb1 S0
 go_wp2_with ((with_reducible refine zaM ?_ (.tmp 1) rfl w.heap.size 0 rfl u RG1.out HOB ?_);· rfl)
 refine (zuU w1 0 w.heap.size u S1.out.s.at_ S1.out.s.here HF.out).mono ?_
 cases hfw:zhj u
 ·rintro e w2 ⟨rfl,hb2⟩
  have S2:=hide (S1.out.on hb2)
  clear hb2 hfw
  go_wp2_with fail
  go_ret
  exact ⟨rfl,S2.out.s.bl⟩
 ·rintro e w2 ⟨rfl,hb2⟩
  have S2:=hide (S1.out.on hb2)
  have RG2:=hide S2.out.s.rng
  have FIT:=hide (zuV hfw)
  have IDS:=hide (zw4 S2.out.s.at_.at_ (zmn hfw).1)
  clear hb2 hfw S1 RG1
  go_wp2_with ((with_reducible refine zaM ?_ (.tmp 1) rfl w.heap.size 0 rfl u RG2.out HOB ?_);· rfl)
  refine (zlx w2 0 w.heap.size u S2.out.s.at_ S2.out.s.here FIT.out.1 S2.out.n S2.out.k).mono ?_
  unfold zie
  rcases znH u.up with he | he | ⟨he,hr⟩
  ·obtain ⟨_,_,_,hob⟩:=zhm he
   have HE:=hide he
   have HOBD:=hide hob
   have hn:=zr4 he
   have HZ2:=hide S2.out.s.bl.size
   obtain ⟨n,hn'⟩:∃ n,(zju u.up).length=n:=⟨_,rfl⟩
   rw [hn'] at hn
   rw [he,hn']
   rintro e w3 ⟨v3,rfl,ho3,hb3⟩
   obtain ⟨A3,c3,rfl,_,_⟩:=zad ho3
   have T3:=hide (At.own ho3)
   have S3:=hide (S2.out.on hb3)
   clear ho3 hb3 he hob hn' S2 RG2
   go_wp2_with fail
   refine (zjM w3 _ _ A3 n c3 u.up UW.out IDS.out HE.out (by rw [← HOBD.out];exact T3.out) (Nat.le_refl _) (by omega) S3.out.n S3.out.k).mono ?_
   rintro e w4 ⟨U,rfl,hu4,hup4,hb4⟩
   have UOB:=hu4.ob
   have U4:=hide hu4
   have UP:=hide hup4
   have S4:=hide (S3.out.on hb4)
   have HZ4:=hide S4.out.s.bl.size
   have e1:(w4.alloc (.cells zUpd 33)).heap.size=w4.heap.size+1:=by simp
   have M0:=Blk.new (w4.alloc (.cells zUpd 33)) 41 zdN
   rw [e1] at M0
   have NEWU:=hide ((Blk.new w4 33 zUpd).alloc (.cells zdN 41))
   have NEWN:=hide M0
   have W5:Hid (Below w4.heap.size w4 ((w4.alloc (.cells zUpd 33)).alloc (.cells zdN 41))):=hide (((Below.refl _ _).alloc (Nat.le_refl _) _).alloc (by rw [e1];omega) _)
   clear hu4 hup4 hb4 M0 e1 S3 T3
   go_wp2_with (refine zaw rfl (.tmp 7) (.tmp 40) rfl w4.heap.size rfl U rfl UOB NEWU.out rfl ?_;intro w5 hb5 hg5;have K5:=hide hb5;have HG5:=hide hg5;have N5:=hide (NEWN.out.grown hg5 (by simp));clear hb5 hg5;refine Hid.out ?_)
   refine hide ?_
   go_wp2_with (refine zaX rfl (.tmp 9) (.tmp 42) rfl (w4.heap.size+1) rfl 0 0 rfl N5.out rfl ?_;intro w6 hb6 hg6;have K6:=hide hb6;have HG6:=hide hg6;have KU6:=hide (K5.out.grown hg6 (by simp));clear hb6 hg6;refine Hid.out ?_)
   refine hide ?_
   have W6:Hid (Below w4.heap.size w4 w6):=hide ((W5.out.grown HG5.out W5.out.size (fun k hk=>by injection hk;omega)).grown HG6.out (Nat.le_trans W5.out.size HG5.out.size) (fun k hk=>by injection hk;omega))
   have U6:=hide (U4.out.below W6.out)
   have S6:=hide (S4.out.on W6.out)
   have HU6:=hide W6.out.size
   clear K5 HG5 N5 HG6 NEWU NEWN W5 U4 S4
   go_wp2_with (first
    | ((with_reducible refine zgX ?_ (.tmp 9) rfl (w4.heap.size+1) rfl K6.out ?_);· rfl)
    | ((with_reducible refine zgl ?_ rfl ?_);· rfl))
   refine (zpo w6).mono ?_
   rintro e w7 ⟨rfl,hb7⟩
   have U7:=hide (U6.out.below (hb7.mono HU6.out))
   have S7:=hide (S6.out.on hb7)
   have RG7:=hide S7.out.s.rng
   have RU7:=hide (zak (l:=updL U) (KU6.out.over hb7))
   have HU7:=hide (Nat.le_trans HU6.out hb7.size)
   have HSU:Hid (zom u.up U.up=true):=hide (by rw [UP.out];unfold zom;rw [zlM];simp)
   have hnI:(n:Int)≤4077:=by omega
   clear hb7 S6 U6 K6 KU6
   go_wp2_with (first
    | ((with_reducible refine zaM ?_ (.tmp 1) rfl w.heap.size 0 rfl u RG7.out HOB ?_);· rfl)
    | ((with_reducible refine zaM ?_ (.tmp 7) rfl w4.heap.size 0 rfl U RU7.out UOB ?_);· rfl))
   refine (zqO w7 _ _ _ _ u U S7.out.s.at_ U7.out S7.out.s.here HU7.out FIT.out.2).mono ?_
   rw [HSU.out]
   rintro e w8 ⟨rfl,hb8⟩
   have S8:=hide (S7.out.on hb8)
   clear hb8
   go_wp2
   go_ret
   exact ⟨rfl,S8.out.s.bl⟩
  ·rw [he]
   rintro e w3 ⟨v3,rfl,ho3,hb3⟩
   obtain ⟨A3,c3,rfl,_,_⟩:=zad ho3
   have S3:=hide (S2.out.on hb3)
   clear ho3 hb3 he
   go_wp2_with fail
   go_ret
   exact ⟨rfl,S3.out.s.bl⟩
  ·have HR:=hide hr
   rw [he]
   rintro e w3 ⟨v3,rfl,ho3,hb3⟩
   obtain ⟨A3,c3,rfl,_,_⟩:=zad ho3
   have S3:=hide (S2.out.on hb3)
   have RG3:=hide S3.out.s.rng
   clear ho3 hb3 he hr S2 RG2
   go_wp2_with ((with_reducible refine zaM ?_ (.tmp 1) rfl w.heap.size 0 rfl u RG3.out HOB ?_);· rfl)
   refine (zjW w3 0 w.heap.size u S3.out.s.at_ S3.out.s.here FIT.out.1 S3.out.n).mono ?_
   rw [HR.out]
   rintro e w4 ⟨rfl,hb4⟩
   have S4:=hide (S3.out.on hb4)
   clear hb4
   go_wp2
   go_ret
   exact ⟨rfl,S4.out.s.bl⟩
end
end Go.Proofs.YtookpplebikfnaaGreatDoor
