/-
  The body of an update that is right: attributes of package update, in whatever memory. The one condition beyond sizes that fit memory: the program's tables hold what their texts lay.
  The body of any update: Bytes of package update, in whatever memory. The one condition beyond sizes that fit memory: the program's tables hold what their texts lay.
  How a table is read: sizeOf, family, next, routes, readTable of package update, in whatever memory. The one condition beyond sizes that fit memory: the program's table holds what its text lays.
-/
import Derived.Test.YtookpplebikfnaaGreatDoorKEBI
import Derived.Test.YtookpplebikfnaaGreatDoorKEBK
set_option linter.unusedVariables false
set_option linter.unusedSimpArgs false
namespace Go.Proofs.YtookpplebikfnaaGreatDoor
section
open Go.RowKit
abbrev zTb:Array Value:=#[.int .i64 0,.int .i64 0,.int .i64 0,.int .u8 0,.int .u8 0,.int .u8 0,.int .u8 0,.int .u8 0,.int .u8 0,.int .u8 0,.int .u8 0,.int .u8 0,.int .u8 0,.int .u8 0,.int .u8 0,.int .u8 0,.int .u8 0,.int .u8 0,.int .u8 0,.slice none 0 0,.slice none 0 0]
def zru (t:Tb):Rw:=⟨128,14,valT true t⟩
def zm4 (t:Tb):Rw:=⟨128,15,valT false t⟩
def preR (a:Ats) (l:List Tb) (k:Nat):List Rw:=if k=0 then [] else zeZ a++(l.take k).map zru
def zce (u:Up):List Rw:=preR u.at_ u.re u.re.length++u.un.map zm4
structure UkS (w y:World) (lo hi:Nat) (u:UpP):Prop where
 s:UpS w y lo hi u
 n:zaQ y
 k:zc3 y
section
variable {w y z:World} {lo hi:Nat} {u:UpP}
theorem UkS.on (h:UkS w y lo hi u) (hb:Below y.heap.size y z):UkS w z lo hi u:=⟨h.s.on hb,h.n.below hb,h.k.below hb⟩
theorem zaQ.grown {q:Nat} (h:zaQ w) (h0:zaQ y) (hq:w.heap.size<q) (hb:Below w.heap.size w z):zaQ z:=h.below hb
end
structure AtW (w y:World) (base lo hi:Nat) (u:UpP) (v:Value) (xs:List RawP) (rs:List Rw):Prop where
 o:zaw y base 89 5 v xs
 r:xs.map RawP.raw=rs
 s:UpS w y lo hi u
 b:base≤y.heap.size
 n:zaQ w
 k:zc3 w
section
variable {w y z:World} {base lo hi:Nat} {u:UpP} {v:Value} {xs:List RawP} {rs:List Rw}
theorem AtW.on (h:AtW w y base lo hi u v xs rs) (hb:Below y.heap.size y z):AtW w z base lo hi u v xs rs :=
 ⟨h.o.over hb,h.r,h.s.on hb,Nat.le_trans h.b hb.size,h.n,h.k⟩
theorem AtW.ny (h:AtW w y base lo hi u v xs rs):zaQ y:=h.n.below h.s.bl
theorem AtW.ky (h:AtW w y base lo hi u v xs rs):zc3 y:=h.k.below h.s.bl
theorem AtW.push (h:AtW w y base lo hi u v xs rs) (hbw:w.heap.size<base) (hq:xs.length≤1000) (F K:Int) (A:Option Addr) (c:Nat) (b:List UInt8) (ho:y.ownsRow base 5 1 (.slice A b.length c) b.length (bvs b)) (hf:∀ g,(Value.slice A b.length c).ownBlock=some g→¬ zfm v xs g) :
  ∃ v' w' xs',(Builtin.append_ #[59,59] 59 #[v,.slice (some ⟨y.heap.size,0,none⟩) 1 1]).run Tryz.prog (y.alloc (.cells (rawC ⟨F,K,A,b.length,c,b⟩) 89)) = .ok v' w'∧AtW w w' base lo hi u v' xs' (rs++[⟨F,K,b⟩])∧xs'.length=xs.length+1∧Below w.heap.size w w':=by
 have HW4:Below y.heap.size y (y.alloc (.cells (rawC ⟨F,K,A,b.length,c,b⟩) 89)):=(Below.refl _ _).alloc (Nat.le_refl _) _
 obtain ⟨v5,w5,hrun,ho5,hg5,hat5⟩:=zgx (y.alloc (.cells (rawC ⟨F,K,A,b.length,c,b⟩) 89)) base 59 v xs (h.o.over HW4) ⟨F,K,A,b.length,c,b⟩ (za6 ho HW4) hf _ _ _ 1 (AtG.one (Blk.new y 89 (rawC ⟨F,K,A,b.length,c,b⟩))) (by omega) (Nat.le_trans h.b HW4.size)
 have hr:∀ k,v.ownBlock=some k→w.heap.size<k:=fun k hk=>by have h1:=(h.o.lt k (.inl hk)).1;omega
 have S5:=(h.s.on HW4).grown hg5 hr
 exact ⟨v5,w5,_,hrun,⟨ho5,by rw [List.map_append,h.r];rfl,S5,Nat.le_trans h.b (Nat.le_trans HW4.size hg5.size),h.n,h.k⟩,by rw [List.length_append];rfl,S5.bl⟩
end
theorem ztX (a:Ats) (l:List Tb) (k:Nat) (h:l.length≤1):(preR a l k).length≤9:=by
 unfold preR
 split
 ·simp
 ·have h1:=zfz a 8
  rw [zg5] at h1
  rw [List.length_append,List.length_map,List.length_take]
  omega
theorem zsj {ok:Tb→Bool} {l:List TbP} (h:fewT ok (l.map TbP.tb)=true):l.length≤1∧∀ x∈l,ok x.tb=true:=by
 unfold fewT at h
 rw [Bool.and_eq_true,List.length_map] at h
 exact ⟨of_decide_eq_true h.1,fun x hx=>List.all_eq_true.1 h.2 _ (List.mem_map.2 ⟨x,hx,rfl⟩)⟩
theorem zmZ {u:UpP} (h:zcv u.up=true):zbK u.at_.ats=true∧(u.re.length≤1∧∀ x∈u.re,zaY true x.tb=true)∧(u.ne.length≤1∧∀ x∈u.ne,zaY false x.tb=true):=by
 unfold zcv at h
 simp only [Bool.and_eq_true] at h
 obtain ⟨h1,h2,h3,_⟩:=h
 have g2:=zsj (l:=u.re) h2
 have g3:=zsj (l:=u.ne) h3
 refine ⟨h1,⟨g2.1,fun x hx=>?_⟩,g3⟩
 have h4:=g2.2 x hx
 unfold zc8 at h4
 rw [Bool.and_eq_true] at h4
 exact h4.1
def unR (P:List Rw) (l:List Tb) (k:Nat):List Rw:=P++(l.take k).map zm4
theorem zkl (P:List Rw) (l:List Tb):unR P l 0=P:=by unfold unR;simp
theorem zvu (P:List Rw) {l:List TbP} {x:TbP} (h:l[0]?=some x):unR P (l.map TbP.tb) 1=P++[⟨128,15,valT false x.tb⟩]:=by
 unfold unR
 cases l with
 | nil=>simp at h
 | cons y r =>
  have e:y=x:=by simpa using h
  subst e
  rfl
theorem zvv {P:List Rw} {l:List TbP} {n:Nat} (h:l.length=n):unR P (l.map TbP.tb) n=P++(l.map TbP.tb).map zm4:=by
 unfold unR
 rw [List.take_of_length_le (by rw [List.length_map];omega)]
theorem zrz (a:Ats) (l:List Tb):(preR a l 0).length≤20:=by unfold preR;simp
theorem ztW (a:Ats) {l:List TbP} {x:TbP} (h:l[0]?=some x):preR a (l.map TbP.tb) 1=zeZ a++[⟨128,14,valT true x.tb⟩]:=by
 unfold preR
 rw [if_neg (by decide)]
 cases l with
 | nil=>simp at h
 | cons y r =>
  have e:y=x:=by simpa using h
  subst e
  rfl
theorem ztR {xs:List RawP} {a:Ats} (h:xs.map RawP.raw=zeZ a):xs.length≤8:=by
 have h1:=congrArg List.length h
 rw [List.length_map] at h1
 have h2:=zfz a 8
 rw [zg5] at h2
 omega
set_option maxRecDepth 20000 in
set_option maxHeartbeats 4000000 in
theorem zjy (w:World) (lo hi:Nat) (u:UpP) (h:UpAt w lo hi u) (hh:hi≤w.heap.size) (hfit:FitU u) (hN:zaQ w) (hK:zc3 w) (hr:zcv u.up=true) :
  Calls Tryz.prog 21 #[.agg (updC u)] w fun e w'=>∃ v xs,e = .returned v∧zaw w' w.heap.size 89 5 v xs∧xs.map RawP.raw=zce u.up∧Below w.heap.size w w':=by
 obtain ⟨r1,r2,r3⟩:=zmZ hr
 obtain ⟨P0,rA,rn,rc,re,nA,nn,nc,ne⟩:=u
 have S0:=hide (UpS.start h hh)
 have HOB:P0.ob.length=16:=h.ob
 have HFT:=hide hfit
 have HNM:=hide hN
 have HKN:=hide hK
 have R1:=hide r1
 have R2:=hide r2
 have R3:=hide r3
 have HLR:Hid (re.length=rn):=hide h.re.len
 have HLN:Hid (ne.length=nn):=hide h.ne.len
 have hrn:rn≤1:=by rw [← HLR.out];exact r2.1
 have hnn:nn≤1:=by rw [← HLN.out];exact r3.1
 have c24:=S0.out.c24
 obtain ⟨base,hbase⟩:∃ base,(w.alloc (.cells (updC ⟨P0,rA,rn,rc,re,nA,nn,nc,ne⟩) 33)).heap.size=base:=⟨_,rfl⟩
 have hbw:w.heap.size<base:=by rw [← hbase];simp
 have HBS:=hide hbase
 clear h hfit hN hK hr r1 r2 r3 hbase
 go_enter Tryz.func21,Tryz.ntmps21
 go_wp2_with fail
 go_loopw [3,11] (fun v i wr=>∃ (k q c:Nat) (B:Option Addr) (xs:List RawP),k≤rn∧v = .slice B q c∧i = .int .i64 k∧xs.length=q∧AtW w wr base lo hi (⟨P0,rA,rn,rc,re,nA,nn,nc,ne⟩:UpP) (.slice B q c) xs (preR P0.ats (re.map TbP.tb) k)) (fun _ i _=>rn-(intOf i).toNat)
 case atStart=>exact ⟨0,0,0,none,[],Nat.zero_le _,rfl,rfl,rfl,⟨zaw.nil _ _ _ _,rfl,S0.out,by rw [HBS.out];exact Nat.le_refl _,HNM.out,HKN.out⟩⟩
 case round =>
  obtain ⟨k,q,c,B,xs,hk,rfl,rfl,hql,hat⟩:=hrel
  have HA:=hide hat
  have HQL:=hide hql
  clear hat hql
  by_cases hlt:k<rn
  ·obtain rfl:k=0:=by omega
   have hkl:((0:Nat):Int)<(rn:Int):=by omega
   obtain ⟨b,o,x,rfl,hb1,hb2,hx,hat⟩:=HA.out.s.at_.re.row.at_ (sz:=21) (fun y hy=>zkm (HA.out.s.at_.re.sz y hy)) hlt
   have hmem:=List.mem_of_getElem? hx
   have HM:=hide (HA.out.s.at_.re.mem x hmem)
   have HW:=hide (HA.out.s.at_.re.sz x hmem)
   have XN:=hide (zdB HW.out)
   have XF:=hide (HFT.out.re x hmem)
   have XR:=hide (R2.out.2 x hmem)
   have HX:=hide hx
   rw [Nat.zero_mul,Nat.add_zero] at hat
   have HAT:=hide hat
   have NEW:=hide (Blk.new wr 53 zTb)
   have HQ9:=hide (show q≤20 by have h1:=HA.out.r;have h2:=congrArg List.length h1;rw [List.length_map,HQL.out] at h2;rw [h2];exact zrz _ _)
   clear hx hat hmem
   go_wp2_with (first
    | ((with_reducible refine zao ?_ (.tmp 13) rfl b o rfl x HAT.out XN.out ?_);· rfl)
    | (refine zcq rfl (.tmp 5) (.tmp 14) rfl wr.heap.size rfl x rfl XN.out NEW.out rfl ?_;intro w2 hb2 hg2;have B2:=hide hb2;have W2:Hid (Below wr.heap.size wr w2):=hide (((Below.refl _ _).alloc (Nat.le_refl _) _).grown hg2 (by simp) (by simp));clear hb2 hg2;refine Hid.out ?_))
   refine hide ?_
   have A2:=hide (HA.out.on W2.out)
   have M2:=hide (mkTb _ _ _ _ _ (fun p _ hp=>W2.out.cell (by have:=HA.out.s.here;omega)) HM.out)
   clear NEW HA HM HAT
   have RA:=hide A2.out.s.ratt
   go_wp2_with ((with_reducible refine zaB ?_ (.tmp 16) rfl w.heap.size 0 rfl RA.out HOB ?_);· rfl)
   refine (zqd w2 lo hi P0 A2.out.s.at_.at_ A2.out.s.here A2.out.ky R1.out).mono ?_
   rintro e w3 ⟨v3,xs3,rfl,ho3,hr3,hb3⟩
   have A3:Hid (AtW w w3 base lo hi (⟨P0,some ⟨b,o,none⟩,rn,rc,re,nA,nn,nc,ne⟩:UpP) v3 xs3 (zeZ P0.ats)):=hide ⟨ho3.more A2.out.b,hr3,A2.out.s.on hb3,Nat.le_trans A2.out.b hb3.size,HNM.out,HKN.out⟩
   have L3:=hide (ztR hr3)
   have M3:=hide (mkTb _ _ _ _ _ (fun p _ hp=>hb3.cell (by have:=A2.out.s.here;omega)) M2.out)
   have B3:=hide (B2.out.over hb3)
   obtain ⟨B9,c3,rfl,_,_⟩:=A3.out.o.shape
   clear ho3 hr3 hb3 A2 M2 B2 RA
   have RB:=hide (zah (l:=tbL x) B3.out)
   go_wp2_with ((with_reducible refine zao ?_ (.tmp 5) rfl wr.heap.size 0 rfl x RB.out XN.out ?_);· rfl)
   refine (zeu _ lo hi x true M3.out HW.out A3.out.s.here XF.out A3.out.ny XR.out).mono ?_
   rintro e w5 ⟨v5,rfl,ho5,hb5⟩
   obtain ⟨A9,c9,rfl,_,_⟩:=zad ho5
   have A5:=hide (A3.out.on hb5)
   obtain ⟨v7,w7,xs7,hrun,hat7,hl7,hb7⟩:=A5.out.push hbw (by have:=L3.out;omega) 128 14 A9 c9 (valT true x.tb) (zay ho5 A3.out.b) (fun g hg hbk=>by have h1:=(A3.out.o.lt g hbk).2;have h2:=(ho5.lt g hg).1;omega)
   have HRUN:=hide hrun
   have A7:=hide hat7
   have L7:=hide hl7
   clear hrun hat7 hl7 hb7 ho5 hb5 A3 A5 M3 B3 RB
   go_wp2_with (first
    | (with_reducible refine zcA rfl (.tmp 24) rfl ⟨128,14,A9,(valT true x.tb).length,c9,valT true x.tb⟩ rfl ?_)
    | (at_builtin;refine zaS rfl (.tmp 21) (.tmp 25) 59 59 59 rfl rfl rfl rfl HRUN.out ?_;refine Hid.out ?_))
   refine hide ?_
   obtain ⟨B7,c7,rfl,_,_⟩:=A7.out.o.shape
   go_wp2
   go_roundw
   case rel=>exact ⟨1,xs7.length,c7,B7,xs7,hlt,rfl,by go_num,rfl,by have:=A7.out;rw [ztW _ HX.out];exact this⟩
   case measure=>simp [intOf];omega
  ·obtain rfl:k=rn:=by omega
   have hkl:¬ ((k:Nat):Int)<(k:Int):=by omega
   obtain ⟨P1,hP1⟩:∃ P1,preR P0.ats (re.map TbP.tb) k=P1:=⟨_,rfl⟩
   have HP1:=hide hP1
   have PRL:Hid ((unR P1 (ne.map TbP.tb) 0).length≤20):=hide (by rw [zkl,← hP1];have:=ztX P0.ats (re.map TbP.tb) k (by rw [List.length_map];exact R2.out.1);omega)
   have k25:=HA.out.s.c25
   clear hP1
   go_wp2_with fail
   go_loopw [3,31] (fun v i wr=>∃ (j q c:Nat) (B:Option Addr) (xs:List RawP),j≤nn∧v = .slice B q c∧i = .int .i64 j∧xs.length=q∧AtW w wr base lo hi (⟨P0,rA,k,rc,re,nA,nn,nc,ne⟩:UpP) (.slice B q c) xs (unR P1 (ne.map TbP.tb) j)) (fun _ i _=>nn-(intOf i).toNat)
   case atStart=>exact ⟨0,q,c,B,xs,Nat.zero_le _,rfl,rfl,HQL.out,by have:=HA.out;rw [HP1.out] at this;rw [zkl];exact this⟩
   case round =>
    obtain ⟨j,q,c,B,xs,hj,rfl,rfl,hql,hat⟩:=hrel
    have HA:=hide hat
    have HQL:=hide hql
    clear hat hql
    by_cases hlt:j<nn
    ·obtain rfl:j=0:=by omega
     have hkl:((0:Nat):Int)<(nn:Int):=by omega
     obtain ⟨b,o,x,rfl,hb1,hb2,hx,hat⟩:=HA.out.s.at_.ne.row.at_ (sz:=21) (fun y hy=>zkm (HA.out.s.at_.ne.sz y hy)) hlt
     have hmem:=List.mem_of_getElem? hx
     have HM:=hide (HA.out.s.at_.ne.mem x hmem)
     have HW:=hide (HA.out.s.at_.ne.sz x hmem)
     have XN:=hide (zdB HW.out)
     have XF:=hide (HFT.out.ne x hmem)
     have XR:=hide (R3.out.2 x hmem)
     have HX:=hide hx
     rw [Nat.zero_mul,Nat.add_zero] at hat
     have HAT:=hide hat
     have NEW:=hide (Blk.new wr 53 zTb)
     have HQ9:=hide (show q≤20 by have h1:=HA.out.r;have h2:=congrArg List.length h1;rw [List.length_map,HQL.out] at h2;rw [h2];exact PRL.out)
     clear hx hat hmem
     go_wp2_with (first
      | ((with_reducible refine zao ?_ (.tmp 33) rfl b o rfl x HAT.out XN.out ?_);· rfl)
      | (refine zcq rfl (.tmp 7) (.tmp 34) rfl wr.heap.size rfl x rfl XN.out NEW.out rfl ?_;intro w2 hb2 hg2;have B2:=hide hb2;have W2:Hid (Below wr.heap.size wr w2):=hide (((Below.refl _ _).alloc (Nat.le_refl _) _).grown hg2 (by simp) (by simp));clear hb2 hg2;refine Hid.out ?_))
     refine hide ?_
     have A2:=hide (HA.out.on W2.out)
     have M2:=hide (mkTb _ _ _ _ _ (fun p _ hp=>W2.out.cell (by have:=HA.out.s.here;omega)) HM.out)
     clear NEW HA HM HAT
     have A3:=hide A2.out
     have M3:=hide M2.out
     have B3:=hide B2.out
     clear A2 M2 B2
     have RB:=hide (zah (l:=tbL x) B3.out)
     go_wp2_with ((with_reducible refine zao ?_ (.tmp 7) rfl wr.heap.size 0 rfl x RB.out XN.out ?_);· rfl)
     refine (zeu _ lo hi x false M3.out HW.out A3.out.s.here XF.out A3.out.ny XR.out).mono ?_
     rintro e w5 ⟨v5,rfl,ho5,hb5⟩
     obtain ⟨A9,c9,rfl,_,_⟩:=zad ho5
     have A5:=hide (A3.out.on hb5)
     obtain ⟨v7,w7,xs7,hrun,hat7,hl7,hb7⟩:=A5.out.push hbw (by rw [HQL.out];have:=HQ9.out;omega) 128 15 A9 c9 (valT false x.tb) (zay ho5 A3.out.b) (fun g hg hbk=>by have h1:=(A3.out.o.lt g hbk).2;have h2:=(ho5.lt g hg).1;omega)
     have HRUN:=hide hrun
     have A7:=hide hat7
     have L7:=hide hl7
     clear hrun hat7 hl7 hb7 ho5 hb5 A3 A5 M3 B3 RB
     go_wp2_with (first
      | (with_reducible refine zcA rfl (.tmp 38) rfl ⟨128,15,A9,(valT false x.tb).length,c9,valT false x.tb⟩ rfl ?_)
      | (at_builtin;refine zaS rfl (.tmp 35) (.tmp 39) 59 59 59 rfl rfl rfl rfl HRUN.out ?_;refine Hid.out ?_))
     refine hide ?_
     obtain ⟨B7,c7,rfl,_,_⟩:=A7.out.o.shape
     go_wp2
     go_roundw
     case rel=>exact ⟨1,xs7.length,c7,B7,xs7,hlt,rfl,by go_num,rfl,by have:=A7.out;rw [zvu _ HX.out];rwa [zkl] at this⟩
     case measure=>simp [intOf];omega
    ·obtain rfl:j=nn:=by omega
     have hkl:¬ ((j:Nat):Int)<(j:Int):=by omega
     go_wp2
     go_ret
     exact ⟨_,rfl,xs,HA.out.o.more (by omega),by rw [HA.out.r,← HP1.out,zvv HLN.out];unfold zce;rw [show (UpP.up ⟨P0,rA,k,rc,re,nA,j,nc,ne⟩).re.length=k by show (re.map TbP.tb).length=k;rw [List.length_map];exact HLR.out];rfl,HA.out.s.bl⟩
end
section
open Go.RowKit
def zja (u:Up):List UInt8:=0::0::(be 2 (zdY (zce u)).length++zdY (zce u))
def zgf (u:Up):Int:=if zcv u=false then 1 else if zeX (zce u)≠0 then zeX (zce u) else if 4077<4+(zdY (zce u)).length then 2 else 0
def zkH (u:Up):List UInt8:=if zgf u=0 then zja u else []
def zh6 (w:World) (u:Up) (e:Ending) (w':World):Prop :=
 ∃ v,e = .returned (.tuple #[v,.int .i64 (zgf u)])∧w'.ownsRow w.heap.size 5 1 v (zkH u).length (bvs (zkH u))∧Below w.heap.size w w'
theorem znk (l:List Rw):(zdY l).length≤262400:=by
 unfold zdY
 split
 ·rename_i h
  unfold zeX at h
  split at h
  ·cases h
  ·have h1:=zgg h
   have h2:l.length*4100≤64*4100:=Nat.mul_le_mul_right _ (by omega)
   omega
 ·simp
theorem znE {w w':World} {u:Up} {k:Int} (h:zgf u=k) (hk:k≠0) (hb:Below w.heap.size w w'):zh6 w u (.returned (.tuple #[.slice none 0 0,.int .i64 k])) w':=by
 have e:zkH u=[]:=if_neg (by rw [h];exact hk)
 refine ⟨.slice none 0 0,by rw [h],?_,hb⟩
 rw [e]
 exact World.ownsRow_nil _ _ _ _
set_option maxRecDepth 20000 in
set_option maxHeartbeats 2000000 in
theorem zlp (w:World) (lo hi:Nat) (u:UpP) (h:UpAt w lo hi u) (hh:hi≤w.heap.size) (hfit:FitU u) (hN:zaQ w) (hK:zc3 w) :
  Calls Tryz.prog 9 #[.agg (updC u)] w (zh6 w u.up):=by
 obtain ⟨i0,hi0,hz0,hz1,hz2⟩:=info_parts zbA
 have Q0:Hid (UkS w (w.alloc (.cells (updC u) 33)) lo hi u):=hide ⟨UpS.start h hh,hN.below ((Below.refl _ _).alloc (Nat.le_refl _) _),hK.below ((Below.refl _ _).alloc (Nat.le_refl _) _)⟩
 have HOB:=h.ob
 have HFT:=hide hfit
 have RG0:=hide Q0.out.s.rng
 obtain ⟨r,hr⟩:∃ r,zcv u.up=r:=⟨_,rfl⟩
 have HR:=hide hr
 clear h hfit hN hK hr
 go_enter Tryz.func9,Tryz.ntmps9
 go_wp2_with ((with_reducible refine zat ?_ (.tmp 1) rfl w.heap.size 0 rfl u RG0.out HOB ?_);· rfl)
 refine (zft _ lo hi u Q0.out.s.at_ Q0.out.s.here HFT.out Q0.out.n).mono ?_
 rw [HR.out]
 rintro e w1 ⟨rfl,hb1⟩
 have Q1:=hide (Q0.out.on hb1)
 have RG1:=hide Q1.out.s.rng
 clear hb1 Q0 RG0
 cases r
 ·have HE:Hid (zgf u.up=1):=hide (if_pos HR.out)
  go_wp2
  go_ret2
  exact znE HE.out (by decide) Q1.out.s.bl
 ·go_wp2_with ((with_reducible refine zat ?_ (.tmp 1) rfl w.heap.size 0 rfl u RG1.out HOB ?_);· rfl)
  refine (zjy w1 lo hi u Q1.out.s.at_ Q1.out.s.here HFT.out Q1.out.n Q1.out.k HR.out).mono ?_
  rintro e w2 ⟨v2,xs,rfl,ho2,hr2,hb2⟩
  obtain ⟨A2,c2,rfl,_,_⟩:=ho2.shape
  have S2:=hide (Q1.out.s.on hb2)
  have X2:=hide (ho2.at_ (n:=xs.length) rfl)
  have RW:=hide hr2
  clear ho2 hr2 hb2 Q1 RG1
  go_wp2_with fail
  refine (zsZ w2 _ _ A2 xs.length c2 xs X2.out (Nat.le_refl _)).mono ?_
  rw [RW.out]
  rintro e w3 ⟨v3,rfl,ho3,hb3⟩
  have S3:=hide (S2.out.on hb3)
  have HJS:=hide (znk (zce u.up))
  have HE:Hid (zgf u.up=if zeX (zce u.up)≠0 then zeX (zce u.up) else if 4077<4+(zdY (zce u.up)).length then 2 else 0):=hide (if_neg (by rw [HR.out];decide))
  have HBD:Hid (zja u.up=0::0::(be 2 (zdY (zce u.up)).length++zdY (zce u.up))):=hide rfl
  generalize zdY (zce u.up)=jb at *
  generalize zeX (zce u.up)=je at *
  obtain ⟨A3,c3,rfl,_,_⟩:=zad ho3
  have T3:=hide (At.own ho3)
  clear ho3 hb3 S2 X2
  by_cases hj:je=0
  ·subst hj
   have HE2:Hid (zgf u.up=if 4077<4+jb.length then 2 else 0):=hide (by rw [HE.out];rfl)
   have hjI:(jb.length:Int)≤262400:=by have:=HJS.out;omega
   by_cases hl:4077<4+jb.length
   ·have hlI:(4077:Int)<4+(jb.length:Int):=by omega
    have HE3:Hid (zgf u.up=2):=hide (by rw [HE2.out,if_pos hl])
    clear HE HE2 hl
    go_wp2
    go_ret2
    exact znE HE3.out (by decide) S3.out.bl
   ·have hlI:¬ (4077:Int)<4+(jb.length:Int):=by omega
    have HE3:Hid (zgf u.up=0):=hide (by rw [HE2.out,if_neg hl])
    have HOUT:Hid (zkH u.up=0::0::(be 2 jb.length++jb)):=hide (by unfold zkH;rw [if_pos HE3.out,HBD.out])
    have hj2:jb.length<65536:=by omega
    have Z4:=hide (zsQ w3 2 5)
    have B4:Hid (Below w3.heap.size w3 (w3.alloc (.cells (madeCells #[.int .u8 0] 2) 5))):=hide ((Below.refl _ _).alloc (Nat.le_refl _) _)
    have hz4:(w3.alloc (.cells (madeCells #[.int .u8 0] 2) 5)).heap.size=w3.heap.size+1:=by simp
    clear HE HE2 hl HBD
    go_wp2_with (refine zbY rfl (.const (.int .i64 2)) (.const (.int .i64 2)) 36 rfl 5 i0 Tryz.underlying36 hi0 hz0 hz1 hz2 2 2 _ rfl rfl rfl (Nat.le_refl _) (by decide) ?_)
    refine (zea _ _ _ (some ⟨w3.heap.size,0,none⟩) 2 2 [0,0] Z4.out (by rw [hz4];exact Nat.le_refl _) (by decide) jb.length 2 (by decide) (by decide) (by omega)).mono ?_
    rintro e w5 ⟨v5,rfl,ho5,hb5⟩
    obtain ⟨A5,c5,rfl,_,_⟩:=zad ho5
    have S5:=hide ((S3.out.on B4.out).on hb5)
    have T5:=hide ((T3.out.below B4.out).below (hb5.mono (by rw [hz4];omega)))
    have HO5:=hide (zay ho5 (Nat.le_trans S3.out.bl.size B4.out.size))
    clear ho5 hb5 S3 Z4 T3 B4 hz4 hlI
    go_wp2_with (at_builtin;go_must (refine zag _ rfl (.tmp 31) (.tmp 32) 36 rfl w.heap.size 5 i0 Tryz.underlying36 hi0 hz0 hz1 hz2 _ (2+2) ([0,0]++be 2 jb.length) rfl HO5.out _ _ A3 jb.length c3 jb rfl T5.out (by omega) S5.out.bl.size ?_);intro v6 w6 hown6 hg6 hat6;have HO6:=hide hown6;have HG6:=hide hg6;clear hown6 hg6 hat6)
    go_ret2
    refine ⟨v6,by rw [HE3.out];rfl,?_,S5.out.bl.grown HG6.out S5.out.bl.size (fun g hg=>(HO5.out.lt g hg).1)⟩
    rw [HOUT.out]
    have h1:=HO6.out
    have h2:(0::0::(be 2 jb.length++jb)).length=2+2+jb.length:=by simp [zbw];omega
    rw [h2]
    simpa using h1
  ·have HE2:Hid (zgf u.up=je):=hide (by rw [HE.out];exact if_pos hj)
   have hjb:(je==0)=false:=beq_eq_false_iff_ne.2 hj
   have HJ:=hide hj
   have hjn:(je != 0)=true:=by rw [bne_iff_ne];exact hj
   clear HE hj
   go_wp2
   go_ret2
   exact znE HE2.out HJ.out S3.out.bl
end
section
set_option maxRecDepth 20000
set_option maxHeartbeats 2000000
open Go.RowKit
theorem zvA (bs:List UInt8):szN ((zau bs 2:Nat):Int)=famS bs:=by
 unfold szN famS
 by_cases h1:zau bs 2=1
 ·rw [if_pos (by omega),if_pos h1]
 ·rw [if_neg (by omega),if_neg h1]
  by_cases h2:zau bs 2=2
  ·rw [if_pos (by omega),if_pos h2]
  ·rw [if_neg (by omega),if_neg h2]
def rdrL (g:Nat) (x:TbP):List Value:=.pointer (some ⟨g,0,none⟩)::tbL x
def rdrC (g:Nat) (x:TbP):Array Value:=(rdrL g x).toArray
structure RdrS (B:Nat) (y:World) (r g lo:Nat) (x:TbP) (bs:List UInt8) (bad:Bool):Prop where
 b:Blk y r 160 (rdrC g x)
 rd:Rd y lo g bs bad
 hB:B≤lo
 lg:lo≤g
 gr:g<r
 nb:x.nb.length=16
section
variable {B:Nat} {y z:World} {r g lo:Nat} {x:TbP} {bs bs':List UInt8} {bad bad':Bool}
theorem RdrS.c (h:RdrS B y r g lo x bs bad) {j:Nat} {u:Value} (hu:(tbL x)[j]?=some u):y.cell? ⟨r,j+1,none⟩=some u:=by
 rw [h.b.cell];unfold rdrC rdrL;simpa using hu
theorem RdrS.c0 (h:RdrS B y r g lo x bs bad):y.cell? ⟨r,0,none⟩=some (.pointer (some ⟨g,0,none⟩)):=by
 rw [h.b.cell];rfl
theorem RdrS.cs (h:RdrS B y r g lo x bs bad):y.cell? ⟨r,1,none⟩=some (.int .i64 x.s):=h.c (zoR x)
theorem RdrS.cf (h:RdrS B y r g lo x bs bad):y.cell? ⟨r,2,none⟩=some (.int .i64 x.f):=h.c (zoQ x)
theorem RdrS.fz (h:RdrS B y r g lo x bs bad) (i:Nat):y.frozen? ⟨r,i,none⟩=false:=h.b.frozen i
theorem RdrS.rng (h:RdrS B y r g lo x bs bad):y.rangeAt r 1 (tbL x):=fun j u hu=>by rw [Nat.add_comm];exact h.c hu
theorem RdrS.step (h:RdrS B y r g lo x bs bad) (hr:Rd z lo g bs' bad') (hg:y.grownBy z (some g)):RdrS B z r g lo x bs' bad' :=
 ⟨h.b.grown hg (by have:=h.gr;simp;omega),hr,h.hB,h.lg,h.gr,h.nb⟩
theorem RdrS.on (h:RdrS B y r g lo x bs bad) (hb:Below y.heap.size y z):RdrS B z r g lo x bs bad :=
 ⟨h.b.over hb,h.rd.below hb h.rd.lt,h.hB,h.lg,h.gr,h.nb⟩
theorem RdrS.drew (h:RdrS B y r g lo x bs bad):RdrS B y.drew r g lo x bs bad:=h.on (zam (Below.refl _ _))
theorem RdrS.below (h:RdrS B y r g lo x bs bad) (hg:y.grownBy z (some g)):Below B y z :=
 (Below.refl B y).grown hg (by have:=h.hB;have:=h.lg;have:=h.rd.lt;omega) (fun k hk=>by injection hk with hk;subst hk;have:=h.hB;have:=h.lg;omega)
theorem RdrS.set_ (h:RdrS B y r g lo x bs bad) {x':TbP} {i:Nat} {u:Value} (he:(rdrC g x).setIfInBounds i u=rdrC g x') (hn:x'.nb.length=16):RdrS B (y.setCell ⟨r,i,none⟩ u) r g lo x' bs bad:=by
 have hb:=h.b.set_ i u
 rw [he] at hb
 have hg:y.grownBy (y.setCell ⟨r,i,none⟩ u) (some r):=zaF (zac _ _) (.inl rfl) _
 exact ⟨hb,h.rd.keep hg (fun k hk=>by injection hk with hk;subst hk;exact .inr h.gr),h.hB,h.lg,h.gr,hn⟩
end
theorem rdr_s (g:Nat) (x:TbP) (v:Int):(rdrC g x).setIfInBounds 1 (.int .i64 v)=rdrC g { x with s:=v }:=by
 unfold rdrC rdrL tbL;simp
theorem rdr_f (g:Nat) (x:TbP) (v:Int):(rdrC g x).setIfInBounds 2 (.int .i64 v)=rdrC g { x with f:=v }:=by
 unfold rdrC rdrL tbL;simp
set_option maxHeartbeats 1000000 in
theorem zpX (B:Nat) (y:World) (r g lo:Nat) (x:TbP) (bs:List UInt8) (bad:Bool) (h:RdrS B y r g lo x bs bad) :
  Calls Tryz.prog 105 #[.pointer (some ⟨r,0,none⟩)] y fun e w'=>e = .returned (.tuple #[])∧RdrS B w' r g lo { x with s:=famS bs,f:=famF bs } (fam3 bs) (bad||!zmc bs)∧Below B y w':=by
 have H:=hide h
 have k0:=h.c0
 clear h
 go_enter Tryz.func105,Tryz.ntmps105
 go_wp2_with fail
 refine (zbi y lo g bs bad H.out.rd 2 (by decide)).mono ?_
 rintro e w1 ⟨rfl,hr1,hg1⟩
 have H1:=hide (H.out.step hr1 hg1)
 have hg1':=hg1
 clear hr1 hg1
 go_wp2_with fail
 refine (zse w1 _).mono ?_
 rw [zvA]
 rintro e w2 ⟨rfl,rfl⟩
 have k1:=H1.out.cs
 have f1:=H1.out.fz 1
 have H2:=hide (H1.out.set_ (rdr_s g x (famS bs)) H1.out.nb)
 have k2:=H2.out.c0
 go_wp2_with fail
 refine (zbi _ lo g _ _ H2.out.rd 1 (by decide)).mono ?_
 rintro e w3 ⟨rfl,hr3,hg3⟩
 have H3:=hide (H2.out.step hr3 hg3)
 have k3:=H3.out.cf
 have f3:=H3.out.fz 2
 have H4:=hide (H3.out.set_ (rdr_f g { x with s:=famS bs } (famF bs)) H3.out.nb)
 have HF:Hid (((zau (zai bs 2) 1:Nat):Int)=famF bs):=hide rfl
 have HB3:Hid (Below B y w3):=hide (((H.out.below hg1').trans (zcE (Below.refl _ _) (by have:=H.out.hB;have:=H.out.lg;have:=H.out.gr;show B≤r;omega) _)).trans (H2.out.below hg3))
 rw [HF.out]
 clear hr3 hg3 hg1'
 go_wp2_with fail
 go_end0
 exact ⟨rfl,by have h1:=H4.out;rw [Bool.or_assoc] at h1;unfold zmc fam3;rw [Bool.not_and];exact h1,HB3.out.trans (zcE (Below.refl _ _) (by have:=H.out.hB;have:=H.out.lg;have:=H.out.gr;show B≤r;omega) _)⟩
theorem zef {ops:Array Oper} {rest:List Oper} {o:Oper} {a:Act} {w:World} {Q:Exit→Act→World→Prop} (hgd:o.guard=none) (x y:Operand) (ho:o.op = .store 25 x y) (g n:Nat) (hx:a.eval x = .pointer (some ⟨g,n,none⟩)) (s:Int) (bs:List UInt8) (hy:a.eval y = .agg (zaq s bs)) (hl:bs.length=16)
  {t:TypeId} (p q r:List Value) (h:Blk w g t (p++(q++r)).toArray) (hp:p.length=n) (hq:q.length=17)
  (hk:∀ w',Blk w' g t (p++((.int .i64 s::bvs bs)++r)).toArray→w.grownBy w' (some g)→wpList Tryz.prog ops Q rest (a.put o.dst undef) w'):wpList Tryz.prog ops Q (o::rest) a w:=by
 subst hp
 refine wpList_plain hgd fun K hK'=>?_
 have ht:w.there g p.length 17:=fun j hj=>by
  refine ⟨?_,h.frozen _⟩
  rw [h.cell]
  simp
  omega
 have hrun:=zbQ x y ho g p.length hx hy hl ht
 unfold Oper.wp
 rw [hrun]
 refine hK' _ _ (hk _ ?_ (zap _ _ _ _ (zac w _)))
 exact zc0 (.int .i64 s::bvs bs) q p w (by simp [bvs,hl,hq]) h
theorem rdr_m {g:Nat} {x:TbP} (h:x.nb.length=16) (A:Option Addr) (n c:Nat) (l:List Mr):(rdrC g x).setIfInBounds 20 (.slice A n c)=rdrC g { x with mA:=A,mn:=n,mc:=c,ms:=l }:=by
 apply Array.toList_inj.1
 rw [Array.toList_setIfInBounds]
 unfold rdrC rdrL tbL
 show List.set _ (17+0+1+1+1) _=_
 simp only [List.set_cons_succ]
 rw [List.set_append_right _ _ (by simp [bvs,h]),show 17+0-(Value.int .i64 x.ns::bvs x.nb).length=0 by simp [bvs,h]]
 rfl
theorem rdr_u {g:Nat} {x:TbP} (h:x.nb.length=16) (A:Option Addr) (n c:Nat) (l:List Ur):(rdrC g x).setIfInBounds 21 (.slice A n c)=rdrC g { x with uA:=A,un:=n,uc:=c,us:=l }:=by
 apply Array.toList_inj.1
 rw [Array.toList_setIfInBounds]
 unfold rdrC rdrL tbL
 show List.set _ (17+1+1+1+1) _=_
 simp only [List.set_cons_succ]
 rw [List.set_append_right _ _ (by simp [bvs,h]),show 17+1-(Value.int .i64 x.ns::bvs x.nb).length=1 by simp [bvs,h]]
 rfl
theorem RdrS.far {B:Nat} {y z:World} {r g lo q:Nat} {x:TbP} {bs:List UInt8} {bad:Bool} (h:RdrS B y r g lo x bs bad) (hg:y.grownBy z (some q)) (hq:r<q):RdrS B z r g lo x bs bad :=
 ⟨h.b.grown hg (by simp;omega),h.rd.keep hg (fun k hk=>by injection hk with hk;subst hk;exact .inr (Nat.lt_trans h.gr hq)),h.hB,h.lg,h.gr,h.nb⟩
def rdrP (g:Nat) (x:TbP):List Value:=[.pointer (some ⟨g,0,none⟩),.int .i64 x.s,.int .i64 x.f]
def rdrR (x:TbP):List Value:=[.slice x.mA x.mn x.mc,.slice x.uA x.un x.uc]
def rdrA (x:TbP):List Value:=.int .i64 x.ns::bvs x.nb
theorem zon {x:TbP} (h:x.nb.length=16):(rdrA x).length=17:=by simp [rdrA,bvs,h]
theorem zpz (B:Nat) (y:World) (r g lo:Nat) (x:TbP) (bs:List UInt8) (bad:Bool) (h:RdrS B y r g lo x bs bad) :
  Calls Tryz.prog 106 #[.pointer (some ⟨r,0,none⟩)] y fun e w'=>e = .returned (.tuple #[]) ∧
   (∃ bad',RdrS B w' r g lo { x with ns:=ofS (zae (zab (zai bs 1) (zau bs 1:Nat)) ((ahT x.f).length:Nat)),nb:=ofB (zae (zab (zai bs 1) (zau bs 1:Nat)) ((ahT x.f).length:Nat)) } (zae (zae (zai bs 1) (zau bs 1:Nat)) 1) bad')∧Below B y w':=by
 have H:=hide h
 have HBR:B<r:=by have:=h.hB;have:=h.lg;have:=h.gr;omega
 have HBG:B≤g:=by have:=h.hB;have:=h.lg;omega
 have HNN:=hide (zel bs)
 clear h
 go_enter Tryz.func106,Tryz.ntmps106
 go_wp2_with fail
 refine wp_region_held_drew (S:=fun z=>Blk z r 160 (rdrC g x)) (by kernel_rfl) H.out.b.drew (fun hHeld=>?_)
 refine rgT 0 ?_
 refine rgT 1 ?_
 refine rgT 2 ?_
 refine rgK 3 (fun w' hSw=>((hSw.cell 0).trans rfl:w'.cell? ⟨r,0,none⟩=some (.pointer (some ⟨g,0,none⟩)))) ?_
 refine rgT 4 ?_
 refine rgT 5 ?_
 refine rgT 6 ?_
 refine rgK 7 (fun w' hSw=>((hSw.cell 0).trans rfl:w'.cell? ⟨r,0,none⟩=some (.pointer (some ⟨g,0,none⟩)))) ?_
 refine zaf (i:=8) rfl (by kernel_rfl) (by rfl) (zbi _ lo g bs bad H.out.drew.rd 1 (by decide)) (fun w=>by kernel_rfl) ?_
 rintro e w1 ⟨rfl,hr1,hg1⟩
 have H1:=hide (H.out.drew.step hr1 hg1)
 have B1:=hide ((zam (Below.refl B y)).trans (H.out.drew.below hg1))
 generalize hNE:zau bs 1=N at *
 have HNE:=hide hNE
 clear hNE
 have wk:(Lit.int .i64 (N:Int)).wf=true:=zcI (by have:=HNN.out;omega)
 refine ⟨_,rfl,H1.out.b,fun hHeld=>?_⟩
 refine rgN ?_
 refine zaf (i:=9) rfl (by kernel_rfl) (by rfl) (zvB w1 lo g _ _ H1.out.rd (N:Int) wk) (fun w=>by kernel_rfl) ?_
 rintro e w2 ⟨g2,rfl,hg2,hr2,hr2',hgr2⟩
 have H2:=hide (H1.out.step hr2' hgr2)
 have B2:=hide (B1.out.trans (H1.out.below hgr2))
 have G2:=hide hr2
 have HRG:Hid (r<g2∧r<w1.heap.size):=hide ⟨Nat.lt_of_lt_of_le H1.out.b.lt hg2,H1.out.b.lt⟩
 have HBZ:Hid (B≤w1.heap.size):=hide (by have:=H1.out.b.lt;omega)
 refine ⟨_,rfl,H2.out.b,fun hHeld=>?_⟩
 refine rgN ?_
 refine rgT 10 ?_
 refine wpAnyH_done (by kernel_rfl) ?_ _
 have HO2:=hide hHeld.lt
 generalize hsb:zab (zai bs 1) (N:Int)=sb at *
 have HSB:=hide hsb
 generalize hrb:zae (zai bs 1) (N:Int)=rb at *
 have HRB:=hide hrb
 have kf:=H2.out.cf
 have kp:=H2.out.c0
 clear hHeld hsb hrb hr1 hg1 hg2 hr2 hr2' hgr2 wk H H1 B1
 go_wp2_with fail
 refine (zjE w2 x.f).mono ?_
 rintro e w3 ⟨rfl,rfl⟩
 have HA8:Hid ((ahT x.f).length≤8):=hide (by unfold ahT;split <;> simp)
 generalize hal:(ahT x.f).length=al at *
 have HAL:=hide hal
 clear hal
 go_wp2_with fail
 refine (za5 w2 _ g2 sb _ G2.out (al:Int) (zcI (by have:=HA8.out;omega))).mono ?_
 rintro e w3 ⟨v3,rfl,_,hr3,hg3⟩
 have H3:=hide (H2.out.far hg3 HRG.out.1)
 have G3:=hide hr3
 have B3:=hide (B2.out.trans ((Below.refl B w2).grown hg3 (by have:=H2.out.b.lt;omega) (fun k hk=>by injection hk with hk;subst hk;have:=HRG.out.1;omega)))
 clear hr3 hg3 H2 G2 B2 kf kp HO2
 generalize hnb:zae sb (al:Int)=nb9 at *
 have HNB:=hide hnb
 clear hnb
 go_wp2_with fail
 refine (G3.out.left).mono ?_
 rintro e w4 ⟨rfl,rfl⟩
 go_wp2_with fail
 refine (za5 w3 _ g2 nb9 _ G3.out (nb9.length:Nat) (zcI (by have:=G3.out.len;omega))).mono ?_
 rw [zig]
 rintro e w4 ⟨v4,rfl,ho4,hr4,hg4⟩
 obtain ⟨A4,c4,rfl,_,_⟩:=zad ho4
 have H4:=hide (H3.out.far hg4 HRG.out.1)
 have B4:=hide (B3.out.trans ((Below.refl B w3).grown hg4 (by have:=H3.out.b.lt;omega) (fun k hk=>by injection hk with hk;subst hk;have:=HRG.out.1;omega)))
 have T4:=hide (At.own ho4)
 clear ho4 hr4 hg4 H3 G3 B3
 go_wp2_with fail
 refine (zht w4 _ _ A4 nb9.length c4 nb9 T4.out (Nat.le_refl _)).mono ?_
 have HL16:=hide (zor nb9)
 generalize ofE nb9=oe at *
 rintro e w5 ⟨rfl,hb5⟩
 have H5:=hide (H4.out.on hb5)
 have B5:=hide (B4.out.trans (hb5.mono (by have:=H4.out.b.lt;omega)))
 have X5:Hid (Blk w5 r 160 (rdrP g x++(rdrA x++rdrR x)).toArray):=hide H5.out.b
 have HX16:=hide (zon H5.out.nb)
 clear hb5 H4 B4 T4
 go_wp2_with (refine zef rfl (.tmp 34) (.tmp 30) rfl r 3 rfl (ofS nb9) (ofB nb9) rfl HL16.out (rdrP g x) (rdrA x) (rdrR x) X5.out rfl HX16.out ?_;intro w6 hb6 hg6;have BB6:=hide hb6;have G6:=hide hg6;clear hb6 hg6;refine Hid.out ?_)
 refine hide ?_
 have H6:Hid (RdrS B w6 r g lo { x with ns:=ofS nb9,nb:=ofB nb9 } rb _):=hide ⟨BB6.out,H5.out.rd.keep G6.out (fun k hk=>by injection hk with hk;subst hk;exact .inr H5.out.gr),H5.out.hB,H5.out.lg,H5.out.gr,HL16.out⟩
 have B6:=hide (B5.out.trans ((Below.refl B w5).grown G6.out (by have:=H5.out.b.lt;omega) (fun k hk=>by injection hk with hk;subst hk;omega)))
 have kp:=H6.out.c0
 clear H5 B5 X5 BB6 G6
 go_wp2_with fail
 refine (za5 w6 lo g rb _ H6.out.rd 1 (by decide)).mono ?_
 rintro e w7 ⟨v7,rfl,_,hr7,hg7⟩
 have H7:=hide (H6.out.step hr7 hg7)
 have B7:=hide (B6.out.trans (H6.out.below hg7))
 clear hr7 hg7
 go_wp2_with fail
 go_end0
 rw [HNE.out,HAL.out,HSB.out,HRB.out,HNB.out]
 exact ⟨rfl,⟨_,H7.out⟩,B7.out⟩
def zho (x:TbP) (bs:List UInt8) (A:Option Addr) (n c:Nat):TbP :=
 if x.f=5 then { x with mA:=A,mn:=n,mc:=c,ms:=(rrP bs x.s).1 } else { x with uA:=A,un:=n,uc:=c,us:=(rrPU bs x.s).1 }
theorem zhp (B:Nat) (y:World) (r g lo:Nat) (x:TbP) (bs:List UInt8) (bad:Bool) (h:RdrS B y r g lo x bs bad) (hn:bs.length≤1000000000) (hN:∀ z,Below B y z→zaQ z) (hm:x.mA=none∧x.mn=0∧x.mc=0∧x.ms=[]) (hu:x.uA=none∧x.un=0∧x.uc=0∧x.us=[]) :
  Calls Tryz.prog 107 #[.pointer (some ⟨r,0,none⟩)] y fun e w'=>e = .returned (.tuple #[]) ∧
   ∃ A n c bs' bad',RdrS B w' r g lo (zho x bs A n c) bs' bad'∧mTb w' B w'.heap.size (zho x bs A n c)∧Below B y w':=by
 have H:=hide h
 have HN:=hide hN
 have HM:=hide hm
 have HU:=hide hu
 have HBR:B<r:=by have:=h.hB;have:=h.lg;have:=h.gr;omega
 have HBN:=hide hn
 clear h hN hm hu hn
 go_enter Tryz.func107,Tryz.ntmps107
 go_wp2_with fail
 refine wp_region_held_drew (S:=fun z=>Blk z r 160 (rdrC g x)∧True) (by kernel_rfl) ⟨H.out.b.drew,trivial⟩ (fun hHeld=>?_)
 refine rgT 0 ?_
 refine rgT 1 ?_
 refine rgT 2 ?_
 refine rgK 3 (fun w' hSw=>((hSw.1.cell 0).trans rfl:w'.cell? ⟨r,0,none⟩=some (.pointer (some ⟨g,0,none⟩)))) ?_
 refine rgT 4 ?_
 refine rgT 5 ?_
 refine rgT 6 ?_
 refine rgK 7 (fun w' hSw=>((hSw.1.cell 0).trans rfl:w'.cell? ⟨r,0,none⟩=some (.pointer (some ⟨g,0,none⟩)))) ?_
 refine rgT 8 ?_
 refine rgT 9 ?_
 refine zaf (i:=10) rfl (by kernel_rfl) (by rfl) (H.out.drew.rd.left) (fun w=>by kernel_rfl) ?_
 rintro e w1 ⟨rfl,rfl⟩
 refine ⟨_,rfl,hHeld,fun hHeld=>?_⟩
 refine rgN ?_
 refine zaf (i:=11) rfl (by kernel_rfl) (by rfl) (za5 _ lo g bs bad H.out.drew.rd (bs.length:Nat) (zcI (by have:=H.out.rd.len;omega))) (fun w=>by kernel_rfl) ?_
 rw [zig]
 rintro e w1 ⟨v1,rfl,ho1,hr1,hg1⟩
 have H1:=hide (H.out.drew.step hr1 hg1)
 have B1:=hide ((zam (Below.refl B y)).trans (H.out.drew.below hg1))
 obtain ⟨A1,c1,rfl,hc1,_⟩:=zad ho1
 have T1:=hide (At.own ho1)
 refine ⟨_,rfl,⟨H1.out.b,trivial⟩,fun hHeld=>?_⟩
 refine rgN ?_
 refine rgT 12 ?_
 refine wpAnyH_done (by kernel_rfl) ?_ _
 have N1:=hide (HN.out w1 B1.out)
 have kf:=H1.out.cf
 have ks:=H1.out.cs
 have hbz:B≤w1.heap.size:=by have:=H1.out.b.lt;omega
 clear hHeld ho1 hr1 hg1 HN
 by_cases hf:x.f=5
 ·have HR:Hid (∀ A n c,zho x bs A n c={ x with mA:=A,mn:=n,mc:=c,ms:=(rrP bs x.s).1 }):=hide (fun A n c=>if_pos hf)
  go_wp2_with fail
  refine (zlS w1 _ _ A1 bs.length c1 bs x.s T1.out (Nat.le_refl _) hc1 HBN.out N1.out).mono ?_
  have HW:=hide (zmS bs x.s)
  unfold zgR
  generalize (rrP bs x.s).1=l at *
  generalize (rrP bs x.s).2=er at *
  rintro e w2 ⟨v2,rfl,ho2,hb2⟩
  obtain ⟨A2,c2,rfl,hc2,_⟩:=zaR ho2
  have L2:=hide (AtG.own (fun m hm=>zeE (HW.out m hm).1) rfl ho2)
  have H2:=hide (H1.out.on hb2)
  have H1r:=hide H1.out.b.lt
  have B2:=hide (B1.out.trans (hb2.mono hbz))
  have k20:=H2.out.c (znY H2.out.nb)
  have f20:=H2.out.fz 20
  have H3:=hide (H2.out.set_ (rdr_m H2.out.nb A2 l.length c2 l) H2.out.nb)
  clear ho2 hb2 H1 T1 N1 kf ks
  go_wp2_with fail
  (try simp only [Exit.inBlock,Exit.then])
  refine bodyPost_ret (results_none rfl _ _ _) rfl ?_
  refine ⟨rfl,A2,l.length,c2,_,_,(by rw [HR.out];exact H3.out),?_,B2.out.trans (zcE (Below.refl _ _) (by show B≤r;omega) _)⟩
  ·rw [HR.out]
   have L3:=(L2.out.grown (zaF (p:=⟨r,20,none⟩) (zac w2 (some r)) (.inl rfl) (.slice A2 l.length c2)) (Nat.le_refl _) (fun q e=>by injection e with e;have:=H1r.out;omega)).more (lo':=B) hbz (zaF (p:=⟨r,20,none⟩) (zac w2 (some r)) (.inl rfl) (.slice A2 l.length c2)).size
   obtain ⟨u1,u2,u3,u4⟩:=HU.out
   refine ⟨L3,?_,hc2,?_⟩
   ·show AtG uroL _ _ _ x.uA x.un x.us
    rw [u1,u2,u4]
    exact AtG.nil _ _ _ _
   ·show x.un≤x.uc
    rw [u2,u3]
    exact Nat.le_refl _
 ·have HR:Hid (∀ A n c,zho x bs A n c={ x with uA:=A,un:=n,uc:=c,us:=(rrPU bs x.s).1 }):=hide (fun A n c=>if_neg hf)
  go_wp2_with fail
  refine (zlm w1 _ _ A1 bs.length c1 bs x.s T1.out (Nat.le_refl _) hc1 HBN.out).mono ?_
  have HW:=hide (zn9 bs x.s)
  unfold zfq
  generalize (rrPU bs x.s).1=l at *
  generalize (rrPU bs x.s).2=er at *
  rintro e w2 ⟨v2,rfl,ho2,hb2⟩
  obtain ⟨A2,c2,rfl,hc2,_⟩:=zaR ho2
  have L2:=hide (AtG.own (fun m hm=>zev (HW.out m hm).1) rfl ho2)
  have H2:=hide (H1.out.on hb2)
  have H1r:=hide H1.out.b.lt
  have B2:=hide (B1.out.trans (hb2.mono hbz))
  have k21:=H2.out.c (znX H2.out.nb)
  have f21:=H2.out.fz 21
  have H3:=hide (H2.out.set_ (rdr_u H2.out.nb A2 l.length c2 l) H2.out.nb)
  clear ho2 hb2 H1 T1 N1 kf ks
  go_wp2_with fail
  go_end0
  refine ⟨rfl,A2,l.length,c2,_,_,(by rw [HR.out];exact H3.out),?_,B2.out.trans (zcE (Below.refl _ _) (by show B≤r;omega) _)⟩
  ·rw [HR.out]
   have L3:=(L2.out.grown (zaF (p:=⟨r,21,none⟩) (zac w2 (some r)) (.inl rfl) (.slice A2 l.length c2)) (Nat.le_refl _) (fun q e=>by injection e with e;have:=H1r.out;omega)).more (lo':=B) hbz (zaF (p:=⟨r,21,none⟩) (zac w2 (some r)) (.inl rfl) (.slice A2 l.length c2)).size
   obtain ⟨u1,u2,u3,u4⟩:=HM.out
   refine ⟨?_,L3,?_,hc2⟩
   ·show AtG mroL _ _ _ x.mA x.mn x.ms
    rw [u1,u2,u4]
    exact AtG.nil _ _ _ _
   ·show x.mn≤x.mc
    rw [u2,u3]
    exact Nat.le_refl _
def rd0:TbP:=⟨0,0,0,zav,none,0,0,[],none,0,0,[]⟩
theorem zu2 (reached:Bool) (b:List UInt8) (A:Option Addr) (n c:Nat) :
  (zho (if reached then { rd0 with s:=famS b,f:=famF b,ns:=ofS (nxA b),nb:=ofB (nxA b) } else { rd0 with s:=famS b,f:=famF b }) (if reached then nx6 b else fam3 b) A n c).tb=rdT reached b:=by
 unfold zho rdT
 by_cases hf:famF b=5
 ·cases reached
  ·simp only [Bool.false_eq_true,if_false]
   rw [if_pos hf,if_pos hf,if_pos hf]
   rfl
  ·simp only [if_true]
   rw [if_pos hf,if_pos hf,if_pos hf]
   rfl
 ·cases reached
  ·simp only [Bool.false_eq_true,if_false]
   rw [if_neg hf,if_neg hf,if_neg hf]
   rfl
  ·simp only [if_true]
   rw [if_neg hf,if_neg hf,if_neg hf]
   rfl
end
end Go.Proofs.YtookpplebikfnaaGreatDoor
