/-
  Routes that are taken for withdrawn: withdrawn of package update, in whatever memory. No condition beyond sizes that fit memory.
-/
import Derived.Test.YtookpplebikfnaaGreatDoorKHBE
set_option linter.unusedVariables false
set_option linter.unusedSimpArgs false
namespace Go.Proofs.YtookpplebikfnaaGreatDoor
section
open Go.RowKit
theorem ztp:(Tryz.prog.info? 53).map (fun i=>(i.zero.map (·.cells.size),i.size,i.bytes))=some (some 21,21,88):=by kernel_rfl
theorem zoU:∃ (i:TypeInfo) (z:Value),Tryz.prog.info? 53=some i∧i.zero=some z∧i.size=21∧i.bytes=88∧z.cells.size=21:=by
 have h:=ztp
 cases hq:Tryz.prog.info? 53 with
 | none=>rw [hq] at h;cases h
 | some i =>
  rw [hq] at h
  simp only [Option.map_some,Option.some.injEq,Prod.mk.injEq] at h
  cases hz:i.zero with
  | none=>rw [hz] at h;simp at h
  | some z =>
   rw [hz] at h
   simp at h
   exact ⟨i,z,rfl,hz,h.2.1,h.2.2,h.1⟩
theorem zc1 (w:World) (base:Nat) (v:Value) (n:Nat) (xs:List TbP) (hown:w.ownsRow base 53 21 v n (za4 tbL xs)) (lo hi':Nat) (A:Option Addr) (m c:Nat) (news:List TbP) (hr:AtG tbL w lo hi' A m news)
  (hs:∀ y∈news,wTb y) (hb:n+m≤1000000000) (hbase:base≤w.heap.size) :
  ∃ v' w',(Builtin.append_ #[31,31] 31 #[v,.slice A m c]).run Tryz.prog w = .ok v' w'∧w'.ownsRow base 53 21 v' (n+m) (za4 tbL (xs++news))∧w.grownBy w' v.ownBlock∧(v'.ownBlock=v.ownBlock∨v'.ownBlock=some w.heap.size):=by
 obtain ⟨i,z,hi,hz,h1,h2,h3⟩:=zoU
 exact zcn (P:=Tryz.prog) w base 31 31 53 i z 88 Tryz.underlying31 hi hz h1 h2 h3 (by decide) v n xs hown lo hi' A m c news hr (fun y hy=>zgm (hs y hy)) (fun y hy=>zmA y) (by omega) (by unfold maxLen;omega) hbase
abbrev zTbG:Array Value:=#[.int .i64 0,.int .i64 0,.int .i64 0,.int .u8 0,.int .u8 0,.int .u8 0,.int .u8 0,.int .u8 0,.int .u8 0,.int .u8 0,.int .u8 0,.int .u8 0,.int .u8 0,.int .u8 0,.int .u8 0,.int .u8 0,.int .u8 0,.int .u8 0,.int .u8 0,.slice none 0 0,.slice none 0 0]
def zbu (x:TbP):TbP:={ x with ns:=0,nb:=zay }
def tbT (x:TbP):List Value:=[.int .i64 x.s,.int .i64 x.f]
def gonV (A:Option Addr) (c:Nat) (xs:List TbP):UpP:={ zdv with nA:=A,nn:=xs.length,nc:=c,ne:=xs }
theorem zr6 (A:Option Addr) (c:Nat) (xs:List TbP):(updC (gonV A c xs))[25]?=some (.slice A xs.length c):=by
 have e:=zeY (u:=gonV A c xs) rfl
 unfold updC
 rw [List.getElem?_toArray]
 exact e
theorem zoO {l:List TbP} {x:TbP} (h:l[0]?=some x):l.take 1=[x]:=by
 cases l with
 | nil=>simp at h
 | cons y r =>
  have e:y=x:=by simpa using h
  subst e
  rfl
structure GnS (w y:World) (lo hi gb:Nat) (u:UpP) (A:Option Addr) (c:Nat) (xs:List TbP):Prop where
 s:UpS w y lo hi u
 b:Blk y gb 33 (updC (gonV A c xs))
 o:y.ownsRow (gb+1) 53 21 (.slice A xs.length c) xs.length (za4 tbL xs)
 m:∀ x∈xs,mTb y lo hi x∧wTb x
 hg:w.heap.size+1<gb
 res:Blk y (w.heap.size+1) 33 zUpd
section
variable {w y z:World} {lo hi gb c:Nat} {u:UpP} {A:Option Addr} {xs:List TbP}
theorem GnS.on (h:GnS w y lo hi gb u A c xs) (hb:Below y.heap.size y z):GnS w z lo hi gb u A c xs :=
 ⟨h.s.on hb,h.b.over hb,za8 h.o hb,fun x hx=>⟨mkTb _ _ _ _ _ (fun p _ hp=>hb.cell (by have:=h.s.here;omega)) (h.m x hx).1,(h.m x hx).2⟩,h.hg,h.res.over hb⟩
theorem GnS.c25 (h:GnS w y lo hi gb u A c xs):y.cell? ⟨gb,25,none⟩=some (.slice A xs.length c):=by
 rw [h.b.cell];exact zr6 A c xs
theorem GnS.append (h:GnS w y lo hi gb u A c xs) (B:Option Addr) (n d:Nat) (news:List TbP) {l h':Nat} (hr:AtG tbL y l h' B n news) (hm:∀ x∈news,mTb y lo hi x∧wTb x) (hb:xs.length+n≤1000000000) :
  ∃ A' c' w',(Builtin.append_ #[31,31] 31 #[.slice A xs.length c,.slice B n d]).run Tryz.prog y = .ok (.slice A' (xs.length+n) c') w'∧w'.cell? ⟨gb,25,none⟩=some (.slice A xs.length c)∧w'.frozen? ⟨gb,25,none⟩=false ∧
   GnS w (w'.setCell ⟨gb,25,none⟩ (.slice A' (xs.length+n) c')) lo hi gb u A' c' (xs++news):=by
 have hbz:=h.b.lt
 obtain ⟨v',w',hrun,ho,hg,hat⟩:=zc1 y (gb+1) _ _ xs h.o l h' B n d news hr (fun x hx=>(hm x hx).2) hb (by omega)
 obtain ⟨A',c',rfl,hcc,_⟩:=za0 ho
 have hlen:(xs++news).length=xs.length+n:=by rw [List.length_append,hr.len]
 have hblk:∀ k,(Value.slice A xs.length c).ownBlock=some k→gb<k:=fun k hk=>by have:=(h.o.lt k hk).1;omega
 have hblk':∀ k,(Value.slice A' (xs.length+n) c').ownBlock=some k→gb<k:=fun k hk=>by have:=(ho.lt k hk).1;omega
 have hgs:=hg.size
 have b2:Blk w' gb 33 (updC (gonV A c xs)):=h.b.grown hg (fun e=>by have:=hblk _ e.symm;omega)
 have s2:UpS w w' lo hi u:=h.s.grown hg (fun k hk=>by have:=hblk k hk;have:=h.hg;omega)
 have m2:∀ x,mTb y lo hi x→mTb w' lo hi x:=fun x hx=>mkTb _ _ _ _ _ (fun p _ hp=>World.cell?_of_block (hg.block p.block (by have:=h.s.here;omega) (fun e=>by have:=hblk _ e.symm;have:=h.hg;have:=h.s.hh;omega))) hx
 have r2:Blk w' (w.heap.size+1) 33 zUpd:=h.res.grown hg (fun e=>by have:=hblk _ e.symm;have:=h.hg;omega)
 have hst:w'.grownBy (w'.setCell ⟨gb,25,none⟩ (.slice A' (xs.length+n) c')) (some gb):=zaH (zad _ _) (.inl rfl) _
 refine ⟨A',c',w',hrun,by rw [b2.cell];exact zr6 A c xs,b2.frozen 25,⟨s2.grown hst (fun k hk=>by injection hk with hk;have:=h.hg;omega),?_,?_,?_,h.hg,r2.grown hst (by have:=h.hg;simp;omega)⟩⟩
 ·have h1:=b2.set_ 25 (.slice A' (xs.length+n) c')
  rw [zlk (U:=gonV A c xs) rfl A' (xs.length+n) c' (xs++news)] at h1
  have e:gonV A' c' (xs++news)={ gonV A c xs with nA:=A',nn:=xs.length+n,nc:=c',ne:=xs++news }:=by unfold gonV;rw [hlen]
  rw [e];exact h1
 ·rw [hlen]
  exact zcI ho hst (by
   cases hq:(Value.slice A' (xs.length+n) c').ownBlock with
   | none=>exact .inl rfl
   | some k=>exact .inr (fun e=>by injection e with e;have:=hblk' k hq;omega))
 ·intro x hx
  have h3:mTb y lo hi x∧wTb x:=by
   rcases List.mem_append.1 hx with hx | hx
   ·exact h.m x hx
   ·exact hm x hx
  exact ⟨mkTb _ _ _ _ _ (fun p _ hp=>World.cell?_of_block (hst.block p.block (by have:=h.s.here;omega) (fun e=>by injection e with e;have:=h.hg;have:=h.s.hh;omega))) (m2 x h3.1),h3.2⟩
end
def zuY (w:World) (lo hi:Nat) (u:UpP) (e:Ending) (w':World):Prop :=
 ∃ (A:Option Addr) (c:Nat) (xs:List TbP),e = .returned (.agg (updC (gonV A c xs)))∧AtG tbL w' w.heap.size w'.heap.size A xs.length xs∧(∀ x∈xs,mTb w' lo hi x∧wTb x)∧xs.length≤c∧xs.map TbP.tb=u.up.re.map zjo++u.up.un∧Below w.heap.size w w'
set_option maxRecDepth 20000 in
set_option maxHeartbeats 4000000 in
theorem zup (w:World) (lo hi:Nat) (u:UpP) (h:UpAt w lo hi u) (hh:hi≤w.heap.size) (hrn:u.rn≤1) (hnn:u.nn≤1000) :
  Calls Tryz.prog 33 #[.agg (updC u)] w (zuY w lo hi u):=by
 obtain ⟨P0,rA,rn,rc,re,nA,nn,nc,ne⟩:=u
 have S0:=hide (UpS.start h hh)
 have HOB:P0.ob.length=16:=h.ob
 have HLR:Hid (re.length=rn):=hide h.re.len
 have HLN:Hid (ne.length=nn):=hide h.ne.len
 dsimp only at hrn hnn
 have e1:(w.alloc (.cells (updC ⟨P0,rA,rn,rc,re,nA,nn,nc,ne⟩) 33)).heap.size=w.heap.size+1:=by simp
 have R0:=Blk.new (w.alloc (.cells (updC ⟨P0,rA,rn,rc,re,nA,nn,nc,ne⟩) 33)) 33 zUpd
 rw [e1] at R0
 have S1:=hide (S0.out.new (.cells zUpd 33))
 have RB:=hide R0
 clear h S0 R0
 go_enter Tryz.func33,Tryz.ntmps33
 go_wp2_with fail
 refine (zgW _).mono ?_
 rintro e w1 ⟨rfl,hb1⟩
 have S2:=hide (S1.out.on hb1)
 have RB2:=hide (RB.out.over hb1)
 have NEW:=hide (Blk.new w1 33 zUpd)
 have HZ1:=hide RB2.out.lt
 clear hb1 S1 RB
 go_wp2_with (refine zau rfl (.tmp 3) (.tmp 6) rfl w1.heap.size rfl zdv rfl zcK NEW.out rfl ?_;intro w2 hb2 hg2;have K2:=hide hb2;have W2:Hid (Below w1.heap.size w1 w2):=hide (((Below.refl _ _).alloc (Nat.le_refl _) _).grown hg2 (by simp) (by simp));clear hb2 hg2;refine Hid.out ?_)
 refine hide ?_
 have G2:Hid (GnS w w2 lo hi w1.heap.size ⟨P0,rA,rn,rc,re,nA,nn,nc,ne⟩ none 0 []):=hide ⟨S2.out.on W2.out,K2.out,World.ownsRow_nil _ _ _ _,(fun x hx=>by cases hx),HZ1.out,RB2.out.over W2.out⟩
 generalize w1.heap.size=gb at *
 have c24:=G2.out.s.c24
 clear K2 W2 NEW S2 RB2 HZ1 e1
 go_wp2_with fail
 go_loopw [10] (fun i wr=>∃ (k c:Nat) (A:Option Addr) (xs:List TbP),k≤rn∧i = .int .i64 k∧xs.length=k∧xs.map TbP.tb=((re.take k).map TbP.tb).map zjo∧GnS w wr lo hi gb ⟨P0,rA,rn,rc,re,nA,nn,nc,ne⟩ A c xs) (fun i _=>rn-(intOf i).toNat)
 case atStart=>exact ⟨0,0,none,[],Nat.zero_le _,rfl,rfl,rfl,G2.out⟩
 case round =>
  obtain ⟨k,c,A,xs,hk,rfl,hxl,hxt,hgn⟩:=hrel
  have G:=hide hgn
  have HXL:=hide hxl
  have HXT:=hide hxt
  clear hgn hxl hxt
  by_cases hlt:k<rn
  ·obtain rfl:k=0:=by omega
   have hkl:((0:Nat):Int)<(rn:Int):=by omega
   obtain ⟨b,o,x,rfl,hb1,hb2,hx,hat⟩:=G.out.s.at_.re.row.at_ (sz:=21) (fun y hy=>zgm (G.out.s.at_.re.sz y hy)) hlt
   have hmem:=List.mem_of_getElem? hx
   have HM:=hide (G.out.s.at_.re.mem x hmem)
   have HW:=hide (G.out.s.at_.re.sz x hmem)
   have XN:=hide (zcZ HW.out)
   have HX:=hide hx
   rw [Nat.zero_mul,Nat.add_zero] at hat
   have HAT:=hide hat
   have NEW:=hide (Blk.new wr 53 zTbG)
   have XA:=hide (zkv XN.out)
   clear hx hat hmem
   go_wp2_with (first
    | ((with_reducible refine zan ?_ (.tmp 12) rfl b o rfl x HAT.out XN.out ?_);· rfl)
    | (refine zbW rfl (.tmp 5) (.tmp 13) rfl wr.heap.size rfl x rfl XN.out NEW.out rfl ?_;intro w3 hb3 hg3;have K3:=hide hb3;have W3:Hid (Below wr.heap.size wr w3):=hide (((Below.refl _ _).alloc (Nat.le_refl _) _).grown hg3 (by simp) (by simp));clear hb3 hg3;refine Hid.out ?_))
   refine hide ?_
   have G3:=hide (G.out.on W3.out)
   have M3:=hide (mkTb _ _ _ _ _ (fun p _ hp=>W3.out.cell (by have:=G.out.s.here;omega)) HM.out)
   have K3':Hid (Blk w3 wr.heap.size 53 (tbT x++(rdrA x++rdrR x)).toArray):=hide K3.out
   clear NEW HM HAT G3 K3
   have HB3:=hide W3.out.size
   go_wp2_with (refine zdg rfl (.tmp 15) (.tmp 14) rfl wr.heap.size 2 rfl 0 zay rfl rfl (tbT x) (rdrA x) (rdrR x) K3'.out rfl XA.out ?_;intro w4 hb4 hg4;have K4:Hid (Blk w4 wr.heap.size 53 (tbC (zbu x))):=hide hb4;have W4:=hide (W3.out.grown hg4 W3.out.size (fun q e=>by injection e with e;omega));have HG4:=hide hg4;clear hb4 hg4;refine Hid.out ?_)
   refine hide ?_
   have G4:=hide (G.out.on W4.out)
   have M4:Hid (mTb w4 lo hi (zbu x)):=hide (mkTb _ _ _ _ _ (fun p _ hp=>HG4.out.block p.block (by have:=G.out.s.here;have:=HB3.out;omega) (fun e=>by injection e with e;have:=G.out.s.here;omega) |> fun h9=>World.cell?_of_block h9) M3.out)
   have Z4:Hid (wTb (zbu x)):=hide (zve HW.out)
   have k25:=G4.out.c25
   have RG4:=hide (zaj (l:=tbL (zbu x)) K4.out)
   have G5:=hide (G4.out.on ((Below.refl _ _).alloc (Nat.le_refl _) (.cells (tbC (zbu x)) 53)))
   have HA5:Hid (Below w4.heap.size w4 (w4.alloc (.cells (tbC (zbu x)) 53))):=hide ((Below.refl _ _).alloc (Nat.le_refl _) _)
   obtain ⟨A6,c6,w6,hrun,hk6,hf6,hg6⟩:=G5.out.append (some ⟨w4.heap.size,0,none⟩) 1 1 [zbu x] (AtG.one (Blk.new w4 53 (tbC (zbu x)))) (fun y hy=>by rw [List.mem_singleton.1 hy];exact ⟨mkTb _ _ _ _ _ (fun p _ hp=>HA5.out.cell (by have:=G4.out.s.here;omega)) M4.out,Z4.out⟩) (by rw [HXL.out];decide)
   have HRUN:=hide hrun
   have G6:=hide hg6
   have hx0:xs=[]:=List.eq_nil_of_length_eq_zero HXL.out
   have HXT6:Hid ((xs++[zbu x]).map TbP.tb=((re.take 1).map TbP.tb).map zjo):=hide (by rw [hx0,zoO HX.out];rfl)
   have HXL6:Hid ((xs++[zbu x]).length=1):=hide (by rw [hx0];rfl)
   clear hrun hg6 G5 K3' M3 W4 HG4 hx0
   go_wp2_with (first
    | ((with_reducible refine zan ?_ (.tmp 5) rfl wr.heap.size 0 rfl (zbu x) RG4.out rfl ?_);· rfl)
    | ((with_reducible refine zdx ?_ (.tmp 18) rfl (zbu x) rfl rfl ?_);· rfl)
    | (at_builtin;refine za2 rfl (.tmp 17) (.tmp 19) 31 31 31 rfl rfl rfl rfl HRUN.out ?_;refine Hid.out ?_))
   refine hide ?_
   go_wp2
   go_roundw
   case rel=>exact ⟨1,c6,A6,xs++[zbu x],hlt,by go_num,HXL6.out,HXT6.out,G6.out⟩
   case measure=>simp [intOf];omega
  ·obtain rfl:k=rn:=by omega
   have hkl:¬ ((k:Nat):Int)<(k:Int):=by omega
   have HTK:Hid (re.take k=re):=hide (List.take_of_length_le (by rw [HLR.out];exact Nat.le_refl _))
   have k25:=G.out.c25
   have l25:=G.out.s.c25
   obtain ⟨A6,c6,w6,hrun,hk6,hf6,hg6⟩:=G.out.append nA nn nc ne G.out.s.at_.ne.row (fun y hy=>⟨G.out.s.at_.ne.mem y hy,G.out.s.at_.ne.sz y hy⟩) (by rw [HXL.out];omega)
   have HRUN:=hide hrun
   have G6:=hide hg6
   have RG6:=hide (zaj (l:=updL (gonV A6 c6 (xs++ne))) G6.out.b)
   clear hrun hg6
   go_wp2_with (at_builtin;refine za2 rfl (.tmp 24) (.tmp 26) 31 31 31 rfl rfl rfl rfl HRUN.out ?_;refine Hid.out ?_)
   refine hide ?_
   go_wp2_with (first
    | ((with_reducible refine zaV ?_ (.tmp 3) rfl gb 0 rfl (gonV A6 c6 (xs++ne)) RG6.out rfl ?_);· rfl)
    | (refine zau rfl (.tmp 2) (.tmp 29) rfl (w.heap.size+1) rfl (gonV A6 c6 (xs++ne)) rfl rfl G6.out.res rfl ?_;intro w7 hb7 hg7;have K7:=hide hb7;have G7:=hide hg7;clear hb7 hg7;refine Hid.out ?_))
   refine hide ?_
   go_wp2
   refine zn5 (c:=2) rfl rfl K7.out rfl rfl ?_
   have hbl:=G6.out.s.bl.grown G7.out G6.out.s.bl.size (fun q hq=>by injection hq with hq;omega)
   have hkp:∀ q:Addr,gb+1≤q.block→q.block<(w6.setCell ⟨gb,25,none⟩ (.slice A6 (xs.length+nn) c6)).heap.size→w7.cell? q=(w6.setCell ⟨gb,25,none⟩ (.slice A6 (xs.length+nn) c6)).cell? q:=fun q h1 h2=>World.cell?_of_block (G7.out.block q.block h2 (fun e=>by injection e with e;have:=G6.out.hg;omega))
   obtain ⟨_,_,hv,hcc,_⟩:=za0 G6.out.o
   injection hv with _ _ hv
   refine ⟨A6,c6,xs++ne,rfl,((AtG.own (fun y hy=>zgm (G6.out.m y hy).2) rfl G6.out.o).keep hkp).more (by have:=G6.out.hg;omega) G7.out.size,fun y hy=>⟨?_,(G6.out.m y hy).2⟩,by rw [← hv] at hcc;exact hcc,?_,hbl⟩
   ·exact mkTb _ _ _ _ _ (fun p _ hp=>World.cell?_of_block (G7.out.block p.block (by have:=G6.out.s.here;omega) (fun e=>by injection e with e;omega))) (G6.out.m y hy).1
   ·rw [List.map_append,HXT.out,HTK.out]
    rfl
end
end Go.Proofs.YtookpplebikfnaaGreatDoor
