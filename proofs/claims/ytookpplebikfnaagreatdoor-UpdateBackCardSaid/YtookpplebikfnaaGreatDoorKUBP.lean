/-
  The body of an update that is right: attributes of package update, in whatever memory. The one condition beyond sizes that fit memory: the program's tables hold what their texts lay.
  The body of any update: Bytes of package update, in whatever memory. The one condition beyond sizes that fit memory: the program's tables hold what their texts lay.
  What Parse of package update makes of a body that was written. The one condition beyond sizes that fit memory: the program's tables hold what their texts lay.
-/
import Derived.Test.YtookpplebikfnaaGreatDoorKUBO
set_option linter.unusedVariables false
set_option linter.unusedSimpArgs false
namespace Go.Proofs.YtookpplebikfnaaGreatDoor
section
open Go.RowKit
abbrev zTb:Array Value:=#[.int .i64 0,.int .i64 0,.int .i64 0,.int .u8 0,.int .u8 0,.int .u8 0,.int .u8 0,.int .u8 0,.int .u8 0,.int .u8 0,.int .u8 0,.int .u8 0,.int .u8 0,.int .u8 0,.int .u8 0,.int .u8 0,.int .u8 0,.int .u8 0,.int .u8 0,.slice none 0 0,.slice none 0 0]
def zrU (t:Tb):Rw:=⟨128,14,valT true t⟩
def znh (t:Tb):Rw:=⟨128,15,valT false t⟩
def preR (a:Ats) (l:List Tb) (k:Nat):List Rw:=if k=0 then [] else ze2 a++(l.take k).map zrU
def zbL (u:Up):List Rw:=preR u.at_ u.re u.re.length++u.un.map znh
structure UkS (w y:World) (lo hi:Nat) (u:UpP):Prop where
 s:UpS w y lo hi u
 n:zaQ y
 k:zc1 y
section
variable {w y z:World} {lo hi:Nat} {u:UpP}
theorem UkS.on (h:UkS w y lo hi u) (hb:Below y.heap.size y z):UkS w z lo hi u:=⟨h.s.on hb,h.n.below hb,h.k.below hb⟩
theorem zaQ.grown {q:Nat} (h:zaQ w) (h0:zaQ y) (hq:w.heap.size<q) (hb:Below w.heap.size w z):zaQ z:=h.below hb
end
structure AtW (w y:World) (base lo hi:Nat) (u:UpP) (v:Value) (xs:List RawP) (rs:List Rw):Prop where
 o:zav y base 89 5 v xs
 r:xs.map RawP.raw=rs
 s:UpS w y lo hi u
 b:base≤y.heap.size
 n:zaQ w
 k:zc1 w
section
variable {w y z:World} {base lo hi:Nat} {u:UpP} {v:Value} {xs:List RawP} {rs:List Rw}
theorem AtW.on (h:AtW w y base lo hi u v xs rs) (hb:Below y.heap.size y z):AtW w z base lo hi u v xs rs :=
 ⟨h.o.over hb,h.r,h.s.on hb,Nat.le_trans h.b hb.size,h.n,h.k⟩
theorem AtW.ny (h:AtW w y base lo hi u v xs rs):zaQ y:=h.n.below h.s.bl
theorem AtW.ky (h:AtW w y base lo hi u v xs rs):zc1 y:=h.k.below h.s.bl
theorem AtW.push (h:AtW w y base lo hi u v xs rs) (hbw:w.heap.size<base) (hq:xs.length≤1000) (F K:Int) (A:Option Addr) (c:Nat) (b:List UInt8) (ho:y.ownsRow base 5 1 (.slice A b.length c) b.length (bvs b)) (hf:∀ g,(Value.slice A b.length c).ownBlock=some g→¬ zfn v xs g) :
  ∃ v' w' xs',(Builtin.append_ #[59,59] 59 #[v,.slice (some ⟨y.heap.size,0,none⟩) 1 1]).run Tryz.prog (y.alloc (.cells (rawC ⟨F,K,A,b.length,c,b⟩) 89)) = .ok v' w'∧AtW w w' base lo hi u v' xs' (rs++[⟨F,K,b⟩])∧xs'.length=xs.length+1∧Below w.heap.size w w':=by
 have HW4:Below y.heap.size y (y.alloc (.cells (rawC ⟨F,K,A,b.length,c,b⟩) 89)):=(Below.refl _ _).alloc (Nat.le_refl _) _
 obtain ⟨v5,w5,hrun,ho5,hg5,hat5⟩:=zgy (y.alloc (.cells (rawC ⟨F,K,A,b.length,c,b⟩) 89)) base 59 v xs (h.o.over HW4) ⟨F,K,A,b.length,c,b⟩ (za6 ho HW4) hf _ _ _ 1 (AtG.one (Blk.new y 89 (rawC ⟨F,K,A,b.length,c,b⟩))) (by omega) (Nat.le_trans h.b HW4.size)
 have hr:∀ k,v.ownBlock=some k→w.heap.size<k:=fun k hk=>by have h1:=(h.o.lt k (.inl hk)).1;omega
 have S5:=(h.s.on HW4).grown hg5 hr
 exact ⟨v5,w5,_,hrun,⟨ho5,by rw [List.map_append,h.r];rfl,S5,Nat.le_trans h.b (Nat.le_trans HW4.size hg5.size),h.n,h.k⟩,by rw [List.length_append];rfl,S5.bl⟩
end
theorem zur (a:Ats) (l:List Tb) (k:Nat) (h:l.length≤1):(preR a l k).length≤9:=by
 unfold preR
 split
 ·simp
 ·have h1:=zfy a 8
  rw [zhb] at h1
  rw [List.length_append,List.length_map,List.length_take]
  omega
theorem zsK {ok:Tb→Bool} {l:List TbP} (h:fewT ok (l.map TbP.tb)=true):l.length≤1∧∀ x∈l,ok x.tb=true:=by
 unfold fewT at h
 rw [Bool.and_eq_true,List.length_map] at h
 exact ⟨of_decide_eq_true h.1,fun x hx=>List.all_eq_true.1 h.2 _ (List.mem_map.2 ⟨x,hx,rfl⟩)⟩
theorem znc {u:UpP} (h:zcP u.up=true):zbK u.at_.ats=true∧(u.re.length≤1∧∀ x∈u.re,za7 true x.tb=true)∧(u.ne.length≤1∧∀ x∈u.ne,za7 false x.tb=true):=by
 unfold zcP at h
 simp only [Bool.and_eq_true] at h
 obtain ⟨h1,h2,h3,_⟩:=h
 have g2:=zsK (l:=u.re) h2
 have g3:=zsK (l:=u.ne) h3
 refine ⟨h1,⟨g2.1,fun x hx=>?_⟩,g3⟩
 have h4:=g2.2 x hx
 unfold zc6 at h4
 rw [Bool.and_eq_true] at h4
 exact h4.1
def unR (P:List Rw) (l:List Tb) (k:Nat):List Rw:=P++(l.take k).map znh
theorem zkv (P:List Rw) (l:List Tb):unR P l 0=P:=by unfold unR;simp
theorem zv0 (P:List Rw) {l:List TbP} {x:TbP} (h:l[0]?=some x):unR P (l.map TbP.tb) 1=P++[⟨128,15,valT false x.tb⟩]:=by
 unfold unR
 cases l with
 | nil=>simp at h
 | cons y r =>
  have e:y=x:=by simpa using h
  subst e
  rfl
theorem zv1 {P:List Rw} {l:List TbP} {n:Nat} (h:l.length=n):unR P (l.map TbP.tb) n=P++(l.map TbP.tb).map znh:=by
 unfold unR
 rw [List.take_of_length_le (by rw [List.length_map];omega)]
theorem zrZ (a:Ats) (l:List Tb):(preR a l 0).length≤20:=by unfold preR;simp
theorem zuq (a:Ats) {l:List TbP} {x:TbP} (h:l[0]?=some x):preR a (l.map TbP.tb) 1=ze2 a++[⟨128,14,valT true x.tb⟩]:=by
 unfold preR
 rw [if_neg (by decide)]
 cases l with
 | nil=>simp at h
 | cons y r =>
  have e:y=x:=by simpa using h
  subst e
  rfl
theorem zul {xs:List RawP} {a:Ats} (h:xs.map RawP.raw=ze2 a):xs.length≤8:=by
 have h1:=congrArg List.length h
 rw [List.length_map] at h1
 have h2:=zfy a 8
 rw [zhb] at h2
 omega
set_option maxRecDepth 20000 in
set_option maxHeartbeats 4000000 in
theorem zjG (w:World) (lo hi:Nat) (u:UpP) (h:UpAt w lo hi u) (hh:hi≤w.heap.size) (hfit:FitU u) (hN:zaQ w) (hK:zc1 w) (hr:zcP u.up=true) :
  Calls Tryz.prog 21 #[.agg (updC u)] w fun e w'=>∃ v xs,e = .returned v∧zav w' w.heap.size 89 5 v xs∧xs.map RawP.raw=zbL u.up∧Below w.heap.size w w':=by
 obtain ⟨r1,r2,r3⟩:=znc hr
 obtain ⟨P0,rA,rn,rc,re,nA,nn,nc,ne⟩:=u
 have S0:=hide (UpS.start h hh)
 have HOB:P0.ob.length=16:=h.ob
 have HFT:=hide hfit
 have HNM:=hide hN
 have HKN:=hide hK
 have R1:=hide r1
 have R2:=hide r2
 have R3:=hide r3
 have HLR:Hid (re.length=rn):=hide h.re.len
 have HLN:Hid (ne.length=nn):=hide h.ne.len
 have hrn:rn≤1:=by rw [← HLR.out];exact r2.1
 have hnn:nn≤1:=by rw [← HLN.out];exact r3.1
 have c24:=S0.out.c24
 obtain ⟨base,hbase⟩:∃ base,(w.alloc (.cells (updC ⟨P0,rA,rn,rc,re,nA,nn,nc,ne⟩) 33)).heap.size=base:=⟨_,rfl⟩
 have hbw:w.heap.size<base:=by rw [← hbase];simp
 have HBS:=hide hbase
 clear h hfit hN hK hr r1 r2 r3 hbase
 go_enter Tryz.func21,Tryz.ntmps21
 go_wp2_with fail
 go_loopw [3,11] (fun v i wr=>∃ (k q c:Nat) (B:Option Addr) (xs:List RawP),k≤rn∧v = .slice B q c∧i = .int .i64 k∧xs.length=q∧AtW w wr base lo hi (⟨P0,rA,rn,rc,re,nA,nn,nc,ne⟩:UpP) (.slice B q c) xs (preR P0.ats (re.map TbP.tb) k)) (fun _ i _=>rn-(intOf i).toNat)
 case atStart=>exact ⟨0,0,0,none,[],Nat.zero_le _,rfl,rfl,rfl,⟨zav.nil _ _ _ _,rfl,S0.out,by rw [HBS.out];exact Nat.le_refl _,HNM.out,HKN.out⟩⟩
 case round =>
  obtain ⟨k,q,c,B,xs,hk,rfl,rfl,hql,hat⟩:=hrel
  have HA:=hide hat
  have HQL:=hide hql
  clear hat hql
  by_cases hlt:k<rn
  ·obtain rfl:k=0:=by omega
   have hkl:((0:Nat):Int)<(rn:Int):=by omega
   obtain ⟨b,o,x,rfl,hb1,hb2,hx,hat⟩:=HA.out.s.at_.re.row.at_ (sz:=21) (fun y hy=>zhW (HA.out.s.at_.re.sz y hy)) hlt
   have hmem:=List.mem_of_getElem? hx
   have HM:=hide (HA.out.s.at_.re.mem x hmem)
   have HW:=hide (HA.out.s.at_.re.sz x hmem)
   have XN:=hide (zdj HW.out)
   have XF:=hide (HFT.out.re x hmem)
   have XR:=hide (R2.out.2 x hmem)
   have HX:=hide hx
   rw [Nat.zero_mul,Nat.add_zero] at hat
   have HAT:=hide hat
   have NEW:=hide (Blk.new wr 53 zTb)
   have HQ9:=hide (show q≤20 by have h1:=HA.out.r;have h2:=congrArg List.length h1;rw [List.length_map,HQL.out] at h2;rw [h2];exact zrZ _ _)
   clear hx hat hmem
   go_wp2_with (first
    | ((with_reducible refine zao ?_ (.tmp 13) rfl b o rfl x HAT.out XN.out ?_);· rfl)
    | (refine zcr rfl (.tmp 5) (.tmp 14) rfl wr.heap.size rfl x rfl XN.out NEW.out rfl ?_;intro w2 hb2 hg2;have B2:=hide hb2;have W2:Hid (Below wr.heap.size wr w2):=hide (((Below.refl _ _).alloc (Nat.le_refl _) _).grown hg2 (by simp) (by simp));clear hb2 hg2;refine Hid.out ?_))
   refine hide ?_
   have A2:=hide (HA.out.on W2.out)
   have M2:=hide (mkTb _ _ _ _ _ (fun p _ hp=>W2.out.cell (by have:=HA.out.s.here;omega)) HM.out)
   clear NEW HA HM HAT
   have RA:=hide A2.out.s.ratt
   go_wp2_with ((with_reducible refine zay ?_ (.tmp 16) rfl w.heap.size 0 rfl RA.out HOB ?_);· rfl)
   refine (zqy w2 lo hi P0 A2.out.s.at_.at_ A2.out.s.here A2.out.ky R1.out).mono ?_
   rintro e w3 ⟨v3,xs3,rfl,ho3,hr3,hb3⟩
   have A3:Hid (AtW w w3 base lo hi (⟨P0,some ⟨b,o,none⟩,rn,rc,re,nA,nn,nc,ne⟩:UpP) v3 xs3 (ze2 P0.ats)):=hide ⟨ho3.more A2.out.b,hr3,A2.out.s.on hb3,Nat.le_trans A2.out.b hb3.size,HNM.out,HKN.out⟩
   have L3:=hide (zul hr3)
   have M3:=hide (mkTb _ _ _ _ _ (fun p _ hp=>hb3.cell (by have:=A2.out.s.here;omega)) M2.out)
   have B3:=hide (B2.out.over hb3)
   obtain ⟨B9,c3,rfl,_,_⟩:=A3.out.o.shape
   clear ho3 hr3 hb3 A2 M2 B2 RA
   have RB:=hide (zak (l:=tbL x) B3.out)
   go_wp2_with ((with_reducible refine zao ?_ (.tmp 5) rfl wr.heap.size 0 rfl x RB.out XN.out ?_);· rfl)
   refine (zey _ lo hi x true M3.out HW.out A3.out.s.here XF.out A3.out.ny XR.out).mono ?_
   rintro e w5 ⟨v5,rfl,ho5,hb5⟩
   obtain ⟨A9,c9,rfl,_,_⟩:=zad ho5
   have A5:=hide (A3.out.on hb5)
   obtain ⟨v7,w7,xs7,hrun,hat7,hl7,hb7⟩:=A5.out.push hbw (by have:=L3.out;omega) 128 14 A9 c9 (valT true x.tb) (zax ho5 A3.out.b) (fun g hg hbk=>by have h1:=(A3.out.o.lt g hbk).2;have h2:=(ho5.lt g hg).1;omega)
   have HRUN:=hide hrun
   have A7:=hide hat7
   have L7:=hide hl7
   clear hrun hat7 hl7 hb7 ho5 hb5 A3 A5 M3 B3 RB
   go_wp2_with (first
    | (with_reducible refine zcA rfl (.tmp 24) rfl ⟨128,14,A9,(valT true x.tb).length,c9,valT true x.tb⟩ rfl ?_)
    | (at_builtin;refine zaS rfl (.tmp 21) (.tmp 25) 59 59 59 rfl rfl rfl rfl HRUN.out ?_;refine Hid.out ?_))
   refine hide ?_
   obtain ⟨B7,c7,rfl,_,_⟩:=A7.out.o.shape
   go_wp2
   go_roundw
   case rel=>exact ⟨1,xs7.length,c7,B7,xs7,hlt,rfl,by go_num,rfl,by have:=A7.out;rw [zuq _ HX.out];exact this⟩
   case measure=>simp [intOf];omega
  ·obtain rfl:k=rn:=by omega
   have hkl:¬ ((k:Nat):Int)<(k:Int):=by omega
   obtain ⟨P1,hP1⟩:∃ P1,preR P0.ats (re.map TbP.tb) k=P1:=⟨_,rfl⟩
   have HP1:=hide hP1
   have PRL:Hid ((unR P1 (ne.map TbP.tb) 0).length≤20):=hide (by rw [zkv,← hP1];have:=zur P0.ats (re.map TbP.tb) k (by rw [List.length_map];exact R2.out.1);omega)
   have k25:=HA.out.s.c25
   clear hP1
   go_wp2_with fail
   go_loopw [3,31] (fun v i wr=>∃ (j q c:Nat) (B:Option Addr) (xs:List RawP),j≤nn∧v = .slice B q c∧i = .int .i64 j∧xs.length=q∧AtW w wr base lo hi (⟨P0,rA,k,rc,re,nA,nn,nc,ne⟩:UpP) (.slice B q c) xs (unR P1 (ne.map TbP.tb) j)) (fun _ i _=>nn-(intOf i).toNat)
   case atStart=>exact ⟨0,q,c,B,xs,Nat.zero_le _,rfl,rfl,HQL.out,by have:=HA.out;rw [HP1.out] at this;rw [zkv];exact this⟩
   case round =>
    obtain ⟨j,q,c,B,xs,hj,rfl,rfl,hql,hat⟩:=hrel
    have HA:=hide hat
    have HQL:=hide hql
    clear hat hql
    by_cases hlt:j<nn
    ·obtain rfl:j=0:=by omega
     have hkl:((0:Nat):Int)<(nn:Int):=by omega
     obtain ⟨b,o,x,rfl,hb1,hb2,hx,hat⟩:=HA.out.s.at_.ne.row.at_ (sz:=21) (fun y hy=>zhW (HA.out.s.at_.ne.sz y hy)) hlt
     have hmem:=List.mem_of_getElem? hx
     have HM:=hide (HA.out.s.at_.ne.mem x hmem)
     have HW:=hide (HA.out.s.at_.ne.sz x hmem)
     have XN:=hide (zdj HW.out)
     have XF:=hide (HFT.out.ne x hmem)
     have XR:=hide (R3.out.2 x hmem)
     have HX:=hide hx
     rw [Nat.zero_mul,Nat.add_zero] at hat
     have HAT:=hide hat
     have NEW:=hide (Blk.new wr 53 zTb)
     have HQ9:=hide (show q≤20 by have h1:=HA.out.r;have h2:=congrArg List.length h1;rw [List.length_map,HQL.out] at h2;rw [h2];exact PRL.out)
     clear hx hat hmem
     go_wp2_with (first
      | ((with_reducible refine zao ?_ (.tmp 33) rfl b o rfl x HAT.out XN.out ?_);· rfl)
      | (refine zcr rfl (.tmp 7) (.tmp 34) rfl wr.heap.size rfl x rfl XN.out NEW.out rfl ?_;intro w2 hb2 hg2;have B2:=hide hb2;have W2:Hid (Below wr.heap.size wr w2):=hide (((Below.refl _ _).alloc (Nat.le_refl _) _).grown hg2 (by simp) (by simp));clear hb2 hg2;refine Hid.out ?_))
     refine hide ?_
     have A2:=hide (HA.out.on W2.out)
     have M2:=hide (mkTb _ _ _ _ _ (fun p _ hp=>W2.out.cell (by have:=HA.out.s.here;omega)) HM.out)
     clear NEW HA HM HAT
     have A3:=hide A2.out
     have M3:=hide M2.out
     have B3:=hide B2.out
     clear A2 M2 B2
     have RB:=hide (zak (l:=tbL x) B3.out)
     go_wp2_with ((with_reducible refine zao ?_ (.tmp 7) rfl wr.heap.size 0 rfl x RB.out XN.out ?_);· rfl)
     refine (zey _ lo hi x false M3.out HW.out A3.out.s.here XF.out A3.out.ny XR.out).mono ?_
     rintro e w5 ⟨v5,rfl,ho5,hb5⟩
     obtain ⟨A9,c9,rfl,_,_⟩:=zad ho5
     have A5:=hide (A3.out.on hb5)
     obtain ⟨v7,w7,xs7,hrun,hat7,hl7,hb7⟩:=A5.out.push hbw (by rw [HQL.out];have:=HQ9.out;omega) 128 15 A9 c9 (valT false x.tb) (zax ho5 A3.out.b) (fun g hg hbk=>by have h1:=(A3.out.o.lt g hbk).2;have h2:=(ho5.lt g hg).1;omega)
     have HRUN:=hide hrun
     have A7:=hide hat7
     have L7:=hide hl7
     clear hrun hat7 hl7 hb7 ho5 hb5 A3 A5 M3 B3 RB
     go_wp2_with (first
      | (with_reducible refine zcA rfl (.tmp 38) rfl ⟨128,15,A9,(valT false x.tb).length,c9,valT false x.tb⟩ rfl ?_)
      | (at_builtin;refine zaS rfl (.tmp 35) (.tmp 39) 59 59 59 rfl rfl rfl rfl HRUN.out ?_;refine Hid.out ?_))
     refine hide ?_
     obtain ⟨B7,c7,rfl,_,_⟩:=A7.out.o.shape
     go_wp2
     go_roundw
     case rel=>exact ⟨1,xs7.length,c7,B7,xs7,hlt,rfl,by go_num,rfl,by have:=A7.out;rw [zv0 _ HX.out];rwa [zkv] at this⟩
     case measure=>simp [intOf];omega
    ·obtain rfl:j=nn:=by omega
     have hkl:¬ ((j:Nat):Int)<(j:Int):=by omega
     go_wp2
     go_ret
     exact ⟨_,rfl,xs,HA.out.o.more (by omega),by rw [HA.out.r,← HP1.out,zv1 HLN.out];unfold zbL;rw [show (UpP.up ⟨P0,rA,k,rc,re,nA,j,nc,ne⟩).re.length=k by show (re.map TbP.tb).length=k;rw [List.length_map];exact HLR.out];rfl,HA.out.s.bl⟩
end
section
open Go.RowKit
def zgR (u:Up):List UInt8:=0::0::(be 2 (zdU (zbL u)).length++zdU (zbL u))
def ze0 (u:Up):Int:=if zcP u=false then 1 else if zeg (zbL u)≠0 then zeg (zbL u) else if 4077<4+(zdU (zbL u)).length then 2 else 0
def zju (u:Up):List UInt8:=if ze0 u=0 then zgR u else []
def zie (w:World) (u:Up) (e:Ending) (w':World):Prop :=
 ∃ v,e = .returned (.tuple #[v,.int .i64 (ze0 u)])∧w'.ownsRow w.heap.size 5 1 v (zju u).length (bvs (zju u))∧Below w.heap.size w w'
theorem znz (l:List Rw):(zdU l).length≤262400:=by
 unfold zdU
 split
 ·rename_i h
  unfold zeg at h
  split at h
  ·cases h
  ·have h1:=zgg h
   have h2:l.length*4100≤64*4100:=Nat.mul_le_mul_right _ (by omega)
   omega
 ·simp
theorem znV {w w':World} {u:Up} {k:Int} (h:ze0 u=k) (hk:k≠0) (hb:Below w.heap.size w w'):zie w u (.returned (.tuple #[.slice none 0 0,.int .i64 k])) w':=by
 have e:zju u=[]:=if_neg (by rw [h];exact hk)
 refine ⟨.slice none 0 0,by rw [h],?_,hb⟩
 rw [e]
 exact World.ownsRow_nil _ _ _ _
set_option maxRecDepth 20000 in
set_option maxHeartbeats 2000000 in
theorem zlx (w:World) (lo hi:Nat) (u:UpP) (h:UpAt w lo hi u) (hh:hi≤w.heap.size) (hfit:FitU u) (hN:zaQ w) (hK:zc1 w) :
  Calls Tryz.prog 9 #[.agg (updC u)] w (zie w u.up):=by
 obtain ⟨i0,hi0,hz0,hz1,hz2⟩:=info_parts zbB
 have Q0:Hid (UkS w (w.alloc (.cells (updC u) 33)) lo hi u):=hide ⟨UpS.start h hh,hN.below ((Below.refl _ _).alloc (Nat.le_refl _) _),hK.below ((Below.refl _ _).alloc (Nat.le_refl _) _)⟩
 have HOB:=h.ob
 have HFT:=hide hfit
 have RG0:=hide Q0.out.s.rng
 obtain ⟨r,hr⟩:∃ r,zcP u.up=r:=⟨_,rfl⟩
 have HR:=hide hr
 clear h hfit hN hK hr
 go_enter Tryz.func9,Tryz.ntmps9
 go_wp2_with ((with_reducible refine zaM ?_ (.tmp 1) rfl w.heap.size 0 rfl u RG0.out HOB ?_);· rfl)
 refine (zjW _ lo hi u Q0.out.s.at_ Q0.out.s.here HFT.out Q0.out.n).mono ?_
 rw [HR.out]
 rintro e w1 ⟨rfl,hb1⟩
 have Q1:=hide (Q0.out.on hb1)
 have RG1:=hide Q1.out.s.rng
 clear hb1 Q0 RG0
 cases r
 ·have HE:Hid (ze0 u.up=1):=hide (if_pos HR.out)
  go_wp2
  go_ret2
  exact znV HE.out (by decide) Q1.out.s.bl
 ·go_wp2_with ((with_reducible refine zaM ?_ (.tmp 1) rfl w.heap.size 0 rfl u RG1.out HOB ?_);· rfl)
  refine (zjG w1 lo hi u Q1.out.s.at_ Q1.out.s.here HFT.out Q1.out.n Q1.out.k HR.out).mono ?_
  rintro e w2 ⟨v2,xs,rfl,ho2,hr2,hb2⟩
  obtain ⟨A2,c2,rfl,_,_⟩:=ho2.shape
  have S2:=hide (Q1.out.s.on hb2)
  have X2:=hide (ho2.at_ (n:=xs.length) rfl)
  have RW:=hide hr2
  clear ho2 hr2 hb2 Q1 RG1
  go_wp2_with fail
  refine (ztt w2 _ _ A2 xs.length c2 xs X2.out (Nat.le_refl _)).mono ?_
  rw [RW.out]
  rintro e w3 ⟨v3,rfl,ho3,hb3⟩
  have S3:=hide (S2.out.on hb3)
  have HJS:=hide (znz (zbL u.up))
  have HE:Hid (ze0 u.up=if zeg (zbL u.up)≠0 then zeg (zbL u.up) else if 4077<4+(zdU (zbL u.up)).length then 2 else 0):=hide (if_neg (by rw [HR.out];decide))
  have HBD:Hid (zgR u.up=0::0::(be 2 (zdU (zbL u.up)).length++zdU (zbL u.up))):=hide rfl
  generalize zdU (zbL u.up)=jb at *
  generalize zeg (zbL u.up)=je at *
  obtain ⟨A3,c3,rfl,_,_⟩:=zad ho3
  have T3:=hide (At.own ho3)
  clear ho3 hb3 S2 X2
  by_cases hj:je=0
  ·subst hj
   have HE2:Hid (ze0 u.up=if 4077<4+jb.length then 2 else 0):=hide (by rw [HE.out];rfl)
   have hjI:(jb.length:Int)≤262400:=by have:=HJS.out;omega
   by_cases hl:4077<4+jb.length
   ·have hlI:(4077:Int)<4+(jb.length:Int):=by omega
    have HE3:Hid (ze0 u.up=2):=hide (by rw [HE2.out,if_pos hl])
    clear HE HE2 hl
    go_wp2
    go_ret2
    exact znV HE3.out (by decide) S3.out.bl
   ·have hlI:¬ (4077:Int)<4+(jb.length:Int):=by omega
    have HE3:Hid (ze0 u.up=0):=hide (by rw [HE2.out,if_neg hl])
    have HOUT:Hid (zju u.up=0::0::(be 2 jb.length++jb)):=hide (by unfold zju;rw [if_pos HE3.out,HBD.out])
    have hj2:jb.length<65536:=by omega
    have Z4:=hide (ztk w3 2 5)
    have B4:Hid (Below w3.heap.size w3 (w3.alloc (.cells (madeCells #[.int .u8 0] 2) 5))):=hide ((Below.refl _ _).alloc (Nat.le_refl _) _)
    have hz4:(w3.alloc (.cells (madeCells #[.int .u8 0] 2) 5)).heap.size=w3.heap.size+1:=by simp
    clear HE HE2 hl HBD
    go_wp2_with (refine zbZ rfl (.const (.int .i64 2)) (.const (.int .i64 2)) 36 rfl 5 i0 Tryz.underlying36 hi0 hz0 hz1 hz2 2 2 _ rfl rfl rfl (Nat.le_refl _) (by decide) ?_)
    refine (zed _ _ _ (some ⟨w3.heap.size,0,none⟩) 2 2 [0,0] Z4.out (by rw [hz4];exact Nat.le_refl _) (by decide) jb.length 2 (by decide) (by decide) (by omega)).mono ?_
    rintro e w5 ⟨v5,rfl,ho5,hb5⟩
    obtain ⟨A5,c5,rfl,_,_⟩:=zad ho5
    have S5:=hide ((S3.out.on B4.out).on hb5)
    have T5:=hide ((T3.out.below B4.out).below (hb5.mono (by rw [hz4];omega)))
    have HO5:=hide (zax ho5 (Nat.le_trans S3.out.bl.size B4.out.size))
    clear ho5 hb5 S3 Z4 T3 B4 hz4 hlI
    go_wp2_with (at_builtin;go_must (refine zag _ rfl (.tmp 31) (.tmp 32) 36 rfl w.heap.size 5 i0 Tryz.underlying36 hi0 hz0 hz1 hz2 _ (2+2) ([0,0]++be 2 jb.length) rfl HO5.out _ _ A3 jb.length c3 jb rfl T5.out (by omega) S5.out.bl.size ?_);intro v6 w6 hown6 hg6 hat6;have HO6:=hide hown6;have HG6:=hide hg6;clear hown6 hg6 hat6)
    go_ret2
    refine ⟨v6,by rw [HE3.out];rfl,?_,S5.out.bl.grown HG6.out S5.out.bl.size (fun g hg=>(HO5.out.lt g hg).1)⟩
    rw [HOUT.out]
    have h1:=HO6.out
    have h2:(0::0::(be 2 jb.length++jb)).length=2+2+jb.length:=by simp [zbx];omega
    rw [h2]
    simpa using h1
  ·have HE2:Hid (ze0 u.up=je):=hide (by rw [HE.out];exact if_pos hj)
   have hjb:(je==0)=false:=beq_eq_false_iff_ne.2 hj
   have HJ:=hide hj
   have hjn:(je != 0)=true:=by rw [bne_iff_ne];exact hj
   clear HE hj
   go_wp2
   go_ret2
   exact znV HE2.out HJ.out S3.out.bl
end
section
open Go.RowKit
theorem zxl (L:Nat):be 2 L=[UInt8.ofNat (L/256%256),UInt8.ofNat (L%256)]:=rfl
theorem zqs (J:List UInt8) (h:J.length<65536):ownB (0::0::(be 2 J.length++J))=J∧badB (0::0::(be 2 J.length++J))=false:=by
 obtain ⟨a1,a2,a3⟩:=ziV 0 0 (be 2 J.length++J)
 have e1:spN (0::0::(be 2 J.length++J))=0:=a1
 have hs0:zbg (be 2 J.length++J) ((0:Nat):Int)=true:=by unfold zbg;simp;omega
 have e2:spR (0::0::(be 2 J.length++J))=be 2 J.length++J:=by
  unfold spR
  rw [e1,a2]
  unfold zae
  rw [if_pos hs0]
  rfl
 have e3:be 2 J.length++J=UInt8.ofNat (J.length/256%256)::UInt8.ofNat (J.length%256)::J:=by rw [zxl];rfl
 obtain ⟨b1,b2,b3⟩:=ziV (UInt8.ofNat (J.length/256%256)) (UInt8.ofNat (J.length%256)) J
 have e4:spM (0::0::(be 2 J.length++J))=J.length:=by
  unfold spM
  rw [e2,e3,b1]
  simp
  omega
 have hs1:zbg J ((J.length:Nat):Int)=true:=by unfold zbg;simp
 refine ⟨?_,?_⟩
 ·unfold ownB
  rw [e4,e2,e3,b2]
  exact zio J
 ·unfold badB
  rw [e4,e2,e1,a2,a3,hs0,e3,b2,b3,hs1]
  rfl
theorem zqr {l:List Rw} (h:zeg l=0) (hl:(zdU l).length<65536):zdQ (0::0::(be 2 (zdU l).length++zdU l))=true∧(zdv (ownB (0::0::(be 2 (zdU l).length++zdU l)))).1=l:=by
 obtain ⟨h1,h2⟩:=zqs (zdU l) hl
 unfold zdQ
 rw [h1,h2,zpj h]
 exact ⟨rfl,rfl⟩
set_option maxHeartbeats 1000000 in
theorem zlw (w:World) (lo hi:Nat) (A:Option Addr) (n c:Nat) (b:List UInt8) (h:At w lo hi A n b) (hh:hi≤w.heap.size) (hn:n≤140737488355328) (hN:zaQ w) (hK:zc1 w) (its:List Item) (rts:List Rw)
  (hw:zdQ b=true) (hraws:(zdv (ownB b)).1=its.map Item.rw++rts) (hlen:(its.map Item.rw++rts).length≤100000) (hd:((its.map Item.rw++rts).map Rw.k).Pairwise (· ≠ ·)) (hrt:∀ y∈rts,(y.k=14∨y.k=15)∧y.f=128) (hok:∀ i∈its,i.Ok) (hS:∀ i∈its,∀ a0,zcN i a0) (hv:∀ x∈its.map Item.rw++rts,x.v.length≤800000)
  (hfin:∀ l:List RawP,l.map RawP.raw=its.map Item.rw++rts→finO l 0=0) :
  Calls Tryz.prog 11 #[.slice A n c] w (zjn w b (fun a l' o=>a=zdw its zb4∧l'=rts∧o=0)):=by
 refine zo7 w lo hi A n c b h hh hn hN _ ?_ ?_ ?_
 ·rintro a rest o ⟨_,rfl,_⟩ _
  refine ⟨?_,fun x hx=>?_⟩
  ·rw [List.length_append] at hlen;omega
  ·have:=hv x (List.mem_append.2 (.inr hx));omega
 ·intro wr A' n' c' ys hys hraw _ hb
  rw [hraws] at hraw
  have hl:ys.length=n':=hys.len
  have hlm:=congrArg List.length hraw
  rw [List.length_map] at hlm
  refine (zrI wr _ _ A' n' c' ys hys (Nat.le_refl _) (by omega) (hK.below hb) its rts hraw ?_ hrt hok hS (fun x hx=>hv x.raw (by rw [← hraw];exact List.mem_map.2 ⟨x,hx,rfl⟩))).mono ?_
  ·have e:ys.map RawP.k=(its.map Item.rw++rts).map Rw.k:=by rw [← hraw,List.map_map];rfl
   rw [e];exact hd
  ·intro e w' hg
   refine hg.mono ?_
   rintro a l' o ⟨h1,h2,h3⟩
   exact ⟨h1,h2,h3.trans (hfin ys hraw)⟩
 ·rintro wr A' n' c' ys _ _ _ _ ⟨a,rest,_,_,h3⟩
  cases h3
structure UpW (u:Up):Prop where
 at_:u.at_.W
 re:∀ t∈u.re,t.W
 un:∀ t∈u.un,t.W
theorem zpq {a b:Ats} (h:zdl a b=true):a=b:=by
 unfold zdl at h
 simp only [Bool.and_eq_true,decide_eq_true_eq] at h
 obtain ⟨h1,h2,h3,⟨h4,h5⟩,h6,h7,h8,h9⟩:=h
 cases a;cases b
 simp_all
theorem zfE {ok:Tb→Bool} {l:List Tb} (h:fewT ok l=true):l=[]∨∃ t,l=[t]∧ok t=true:=by
 unfold fewT at h
 rw [Bool.and_eq_true] at h
 match l,h with
 | [],_=>exact .inl rfl
 | [t],h=>exact .inr ⟨t,rfl,by simpa using h.2⟩
 | _::_::_,h=>simp at h
theorem zoE {t:Tb} (h:zc6 t=true):za7 true t=true∧hasT t=true:=by
 unfold zc6 at h
 rw [Bool.and_eq_true] at h
 exact h
def itsU (u:Up):List Item:=if u.re.length=0 then [] else zce u.at_
def rtsU (u:Up):List Rw:=u.re.map zrU++u.un.map znh
theorem zgh (u:Up):zbL u=(itsU u).map Item.rw++rtsU u:=by
 unfold zbL preR itsU rtsU
 by_cases h:u.re.length=0
 ·rw [if_pos h,if_pos h,List.eq_nil_of_length_eq_zero h]
  rfl
 ·rw [if_neg h,if_neg h,List.take_length]
  unfold ze2
  rw [List.append_assoc]
theorem ztN {u:Up} (w:UpW u) (hr:zcP u=true):tabs (rtsU u)=(u.re,u.un,0):=by
 unfold zcP at hr
 simp only [Bool.and_eq_true] at hr
 obtain ⟨_,h2,h3,_⟩:=hr
 unfold rtsU
 have w1:=w.re
 have w2:=w.un
 rcases zfE h2 with e1 | ⟨t,e1,ht⟩ <;> rcases zfE h3 with e2 | ⟨s,e2,hs⟩ <;> rw [e1] at w1 <;> rw [e2] at w2 <;> rw [e1,e2]
 ·rfl
 ·have hW:=w2 s (by simp)
  simp [tabs,zco,znh,zkL hW hs (by simp),ziN hW hs]
 ·have hW:=w1 t (by simp)
  obtain ⟨g1,g2⟩:=zoE ht
  simp [tabs,zco,zrU,zkL hW g1 (fun _=>g2),ziN hW g1]
 ·have hW:=w1 t (by simp)
  obtain ⟨g1,g2⟩:=zoE ht
  have hW2:=w2 s (by simp)
  simp [tabs,zco,zrU,znh,zkL hW g1 (fun _=>g2),ziN hW g1,zkL hW2 hs (by simp),ziN hW2 hs]
theorem zp2 (i:Item):zeW i.kind=true:=by cases i <;> rfl
theorem zlN (u:Up):∀ y∈rtsU u,(y.k=14∨y.k=15)∧y.f=128:=by
 intro y hy
 rcases List.mem_append.1 hy with hy | hy
 ·obtain ⟨t,_,rfl⟩:=List.mem_map.1 hy
  exact ⟨.inl rfl,rfl⟩
 ·obtain ⟨t,_,rfl⟩:=List.mem_map.1 hy
  exact ⟨.inr rfl,rfl⟩
theorem znw {u:Up} (hr:zcP u=true):(((itsU u).map Item.rw++rtsU u).map Rw.k).Pairwise (· ≠ ·):=by
 unfold zcP at hr
 simp only [Bool.and_eq_true] at hr
 obtain ⟨_,h2,h3,_⟩:=hr
 rw [List.map_append,List.pairwise_append]
 refine ⟨?_,?_,?_⟩
 ·have e:((itsU u).map Item.rw).map Rw.k=(itsU u).map Item.kind:=by rw [List.map_map];rfl
  rw [e,List.pairwise_map]
  unfold itsU
  split
  ·exact List.Pairwise.nil
  ·exact (zp4 u.at_).imp (fun h=>by omega)
 ·unfold rtsU
  rcases zfE h2 with e1 | ⟨t,e1,ht⟩ <;> rcases zfE h3 with e2 | ⟨s,e2,hs⟩ <;> rw [e1,e2] <;> simp [zrU,znh]
 ·intro a ha b hb
  obtain ⟨x,hx,rfl⟩:=List.mem_map.1 ha
  obtain ⟨i,_,rfl⟩:=List.mem_map.1 hx
  obtain ⟨y,hy,rfl⟩:=List.mem_map.1 hb
  have h4:=zp2 i
  have h5:=(zlN u y hy).1
  unfold zeW at h4
  simp only [decide_eq_true_eq] at h4
  show i.kind≠y.k
  omega
theorem zuR {u:Up} {l:List RawP} (h:l.map RawP.raw=(itsU u).map Item.rw++rtsU u):finO l 0=0:=by
 unfold finO
 refine if_neg ?_
 rintro ⟨h1,h2⟩
 have hmem:∀ (K:Int) (r:Rw),r∈(itsU u).map Item.rw++rtsU u→r.k=K→0<cntK K l:=fun K r hr hk=>by
  rw [← h] at hr
  obtain ⟨x,hx,e⟩:=List.mem_map.1 hr
  refine List.length_pos_of_mem (a:=x) (List.mem_filter.2 ⟨hx,decide_eq_true ?_⟩)
  rw [← hk,← e];rfl
 by_cases hr:u.re.length=0
 ·have e1:u.re=[]:=List.eq_nil_of_length_eq_zero hr
  have:cntK 14 l=0:=by
   unfold cntK
   rw [List.length_eq_zero_iff,List.filter_eq_nil_iff]
   intro x hx
   have h3:x.raw∈(itsU u).map Item.rw++rtsU u:=by rw [← h];exact List.mem_map.2 ⟨x,hx,rfl⟩
   unfold itsU rtsU at h3
   rw [if_pos hr,e1] at h3
   simp at h3
   obtain ⟨t,_,h4⟩:=h3
   have h5:x.k=15:=by have:=congrArg Rw.k h4;exact this.symm
   simp [h5]
  omega
 ·have hi:∀ i,i∈zce u.at_→i.rw∈(itsU u).map Item.rw++rtsU u:=fun i hi=>by
   refine List.mem_append.2 (.inl (List.mem_map.2 ⟨i,?_,rfl⟩))
   unfold itsU
   rw [if_neg hr];exact hi
  have g1:=hmem 1 _ (hi (.origin u.at_.o) (by unfold zce;simp)) rfl
  have g2:=hmem 2 _ (hi (.path u.at_.path) (by unfold zce;simp)) rfl
  omega
theorem zv2 {a:Ats} {t:Tun} (h:Item.tun t∈zce a):t∈a.tn:=by
 unfold zce at h
 simp only [List.mem_append,List.mem_cons,List.not_mem_nil,or_false] at h
 rcases h with (h | h) | h | h | h | h | h | h
 ·cases h
 ·cases h
 ·split at h
  ·rw [List.mem_singleton] at h;cases h
  ·cases h
 ·split at h
  ·rw [List.mem_singleton] at h;cases h
  ·cases h
 ·split at h
  ·rw [List.mem_singleton] at h;cases h
  ·cases h
 ·split at h
  ·cases h
  ·rw [List.mem_singleton] at h;cases h
 ·split at h
  ·cases h
  ·rw [List.mem_singleton] at h;cases h
 ·cases ht:a.tn with
  | nil=>rw [ht] at h;cases h
  | cons x r =>
   rw [ht] at h
   have h1:Item.tun t=Item.tun x:=List.mem_singleton.1 h
   injection h1 with h1
   rw [h1]
   exact List.mem_cons_self
theorem zrc {a:Ats} (hw:a.W) (hr:zdZ a) (hid:∀ t∈a.tn,t.id.length≤1024) (hv:∀ i∈zce a,i.value.length≤4096):∀ i∈zce a,∀ a0,zcN i a0:=by
 intro i hi a0
 have hok:=zoO hw hr i hi
 have hv:=hv i hi
 cases i with
 | origin o =>
  obtain ⟨h1,h2⟩:=hok
  obtain ⟨O,rfl⟩:∃ O:Nat,o=(O:Int):=⟨o.toNat,by omega⟩
  exact zm1 O (by omega) a0
 | path p=>exact zre p hok a0
 | med m =>
  obtain ⟨h1,h2⟩:=hok
  obtain ⟨O,rfl⟩:∃ O:Nat,m=(O:Int):=⟨m.toNat,by omega⟩
  exact ztU O (by omega) a0
 | pref m =>
  obtain ⟨h1,h2⟩:=hok
  obtain ⟨O,rfl⟩:∃ O:Nat,m=(O:Int):=⟨m.toNat,by omega⟩
  exact zrd O (by omega) a0
 | orig s b=>exact zrf s b hok.1 hok.2 a0
 | clus l=>exact zrh l hok.2.1 hok.2.2.1 hok.2.2.2 hok.1 a0
 | exts l=>exact zrg l hok.2 hok.1 a0
 | tun t=>exact ztT t hok.1 hok.2 (by have:=hid t (zv2 hi);omega) (Nat.le_trans (show (zb9 t).length≤4096 from hv) (by decide)) a0
theorem zhm {u:Up} (h:ze0 u=0):zcP u=true∧zeg (zbL u)=0∧(zdU (zbL u)).length≤4073∧zju u=zgR u:=by
 have ho:zju u=zgR u:=if_pos h
 unfold ze0 at h
 split at h
 ·cases h
 ·rename_i h1
  split at h
  ·rename_i h2;exact absurd h h2
  ·rename_i h2
   split at h
   ·cases h
   ·exact ⟨by cases hq:zcP u;exact absurd hq h1;rfl,by simpa using h2,by omega,ho⟩
theorem znJ {x:Rw} (h:zbd x=0):x.v.length≤4096:=by
 unfold zbd at h
 split at h
 ·cases h
 ·split at h
  ·cases h
  ·omega
theorem zny {l:List Rw} (h:zeg l=0):l.length≤64∧∀ x∈l,x.v.length≤4096:=by
 unfold zeg at h
 split at h
 ·cases h
 ·exact ⟨by omega,fun x hx=>znJ (zcy.1 h x hx)⟩
def zvn (w:World) (u:Up) (e:Ending) (w':World):Prop :=
 ∃ U:UpP,e = .returned (.tuple #[.agg (updC U),.int .i64 0,.agg (zf9 0 0)])∧UpAt w' w.heap.size w'.heap.size U∧U.up=u∧Below w.heap.size w w'
theorem zjM (w:World) (lo hi:Nat) (A:Option Addr) (n c:Nat) (u:Up) (hW:UpW u) (hid:∀ t∈u.at_.tn,t.id.length≤1024) (he:ze0 u=0) (h:At w lo hi A n (zgR u)) (hh:hi≤w.heap.size) (hn:n≤140737488355328) (hN:zaQ w) (hK:zc1 w) :
  Calls Tryz.prog 11 #[.slice A n c] w (zvn w u):=by
 obtain ⟨hr,hj,hl,_⟩:=zhm he
 obtain ⟨hlen,hval⟩:=zny hj
 obtain ⟨hw,hraws⟩:=zqr hj (by omega)
 rw [zgh] at hlen hval
 have hr':=hr
 unfold zcP at hr'
 simp only [Bool.and_eq_true] at hr'
 have hat:=(zf6 u.at_).1 hr'.1
 have hin:∀ i∈itsU u,i∈zce u.at_:=fun i hi=>by
  unfold itsU at hi
  split at hi
  ·cases hi
  ·exact hi
 refine (zlw w lo hi A n c (zgR u) h hh hn hN hK (itsU u) (rtsU u) hw (hraws.trans (zgh u)) (by omega) (znw hr) (zlN u) (fun i hi=>zoO hW.at_ hat i (hin i hi)) ?_ (fun x hx=>by have:=hval x hx;omega) (fun l hl=>zuR hl)).mono ?_
 ·intro i hi
  have hne:¬ u.re.length=0:=fun e=>by unfold itsU at hi;rw [if_pos e] at hi;cases hi
  have hv2:∀ j∈zce u.at_,j.value.length≤4096:=fun j hj=>hval j.rw (List.mem_append.2 (.inl (List.mem_map.2 ⟨j,by unfold itsU;rw [if_neg hne];exact hj,rfl⟩)))
  exact zrc hW.at_ hat hid hv2 i (hin i hi)
 ·rintro e w' ⟨U,o,nc,ns,rfl,hu,ho,hb⟩
  have ht:=ztN hW hr
  have key:U.up=u∧o=0∧nc=0∧ns=0:=by
   generalize hU:U.up=V at ho
   cases ho with
   | torn h1=>exact absurd (hw.symm.trans h1) (by decide)
   | reset a rest s _ h2=>exact absurd h2.2.2 (by decide)
   | table a rest o _ h2 _ h4 =>
    obtain ⟨_,rfl,rfl⟩:=h2
    rw [ht] at h4
    exact absurd (show max (0:Int) 0=3 from h4) (by decide)
   | held a rest o _ h2 _ h4 =>
    obtain ⟨_,rfl,rfl⟩:=h2
    rw [ht] at h4
    exact absurd (show max (0:Int) 0=2 from h4) (by decide)
   | reach a rest o m _ h2 _ h4 _ _ h7 =>
    obtain ⟨rfl,rfl,rfl⟩:=h2
    rw [ht] at h4 h7 ⊢
    have hne:¬ u.re.length=0:=by have:0<u.re.length:=h7;omega
    refine ⟨?_,h4.symm,rfl,rfl⟩
    unfold itsU
    rw [if_neg hne,zpm hat]
   | none a rest o m _ h2 _ h4 _ _ h7 =>
    obtain ⟨rfl,rfl,rfl⟩:=h2
    rw [ht] at h4 h7 ⊢
    refine ⟨?_,h4.symm,rfl,rfl⟩
    have h8:=hr'.2.2.2
    rw [Bool.or_eq_true] at h8
    have e0:u.re.length=0:=h7
    rcases h8 with h8 | h8
    ·have:=of_decide_eq_true h8;omega
    ·rw [← zpq h8]
  obtain ⟨k1,rfl,rfl,rfl⟩:=key
  exact ⟨U,rfl,hu,k1,hb⟩
end
end Go.Proofs.YtookpplebikfnaaGreatDoor
