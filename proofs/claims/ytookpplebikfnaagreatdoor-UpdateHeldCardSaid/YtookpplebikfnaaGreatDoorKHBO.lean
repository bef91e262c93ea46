/-
  The body of an update that is right: attributes of package update, in whatever memory. The one condition beyond sizes that fit memory: the program's tables hold what their texts lay.
  The body of any update: Bytes of package update, in whatever memory. The one condition beyond sizes that fit memory: the program's tables hold what their texts lay.
  What Parse of package update makes of a body that was written. The one condition beyond sizes that fit memory: the program's tables hold what their texts lay.
  Which errors the body of an update may have, how long it is, how great an update with few of all is; a Note of zeros loaded and built. No condition.
  What Parse of package update makes of a body that was written, where the Origin was made one that may not be: the routes are withdrawn. The one condition beyond sizes that fit memory: the program's tables hold what their texts lay.
  Parse of an update whose one attribute withdraws routes. The one condition beyond sizes: the program's tables hold what its text lays.
-/
import Derived.Test.YtookpplebikfnaaGreatDoorKHBN
set_option linter.unusedVariables false
set_option linter.unusedSimpArgs false
namespace Go.Proofs.YtookpplebikfnaaGreatDoor
section
open Go.RowKit
abbrev zTb:Array Value:=#[.int .i64 0,.int .i64 0,.int .i64 0,.int .u8 0,.int .u8 0,.int .u8 0,.int .u8 0,.int .u8 0,.int .u8 0,.int .u8 0,.int .u8 0,.int .u8 0,.int .u8 0,.int .u8 0,.int .u8 0,.int .u8 0,.int .u8 0,.int .u8 0,.int .u8 0,.slice none 0 0,.slice none 0 0]
def zrm (t:Tb):Rw:=⟨128,14,valT true t⟩
def zmT (t:Tb):Rw:=⟨128,15,valT false t⟩
def preR (a:Ats) (l:List Tb) (k:Nat):List Rw:=if k=0 then [] else zeV a++(l.take k).map zrm
def zbI (u:Up):List Rw:=preR u.at_ u.re u.re.length++u.un.map zmT
structure UkS (w y:World) (lo hi:Nat) (u:UpP):Prop where
 s:UpS w y lo hi u
 n:zaM y
 k:zdd y
section
variable {w y z:World} {lo hi:Nat} {u:UpP}
theorem UkS.on (h:UkS w y lo hi u) (hb:Below y.heap.size y z):UkS w z lo hi u:=⟨h.s.on hb,h.n.below hb,h.k.below hb⟩
theorem zaM.grown {q:Nat} (h:zaM w) (h0:zaM y) (hq:w.heap.size<q) (hb:Below w.heap.size w z):zaM z:=h.below hb
end
structure AtW (w y:World) (base lo hi:Nat) (u:UpP) (v:Value) (xs:List RawP) (rs:List Rw):Prop where
 o:zax y base 89 5 v xs
 r:xs.map RawP.raw=rs
 s:UpS w y lo hi u
 b:base≤y.heap.size
 n:zaM w
 k:zdd w
section
variable {w y z:World} {base lo hi:Nat} {u:UpP} {v:Value} {xs:List RawP} {rs:List Rw}
theorem AtW.on (h:AtW w y base lo hi u v xs rs) (hb:Below y.heap.size y z):AtW w z base lo hi u v xs rs :=
 ⟨h.o.over hb,h.r,h.s.on hb,Nat.le_trans h.b hb.size,h.n,h.k⟩
theorem AtW.ny (h:AtW w y base lo hi u v xs rs):zaM y:=h.n.below h.s.bl
theorem AtW.ky (h:AtW w y base lo hi u v xs rs):zdd y:=h.k.below h.s.bl
theorem AtW.push (h:AtW w y base lo hi u v xs rs) (hbw:w.heap.size<base) (hq:xs.length≤1000) (F K:Int) (A:Option Addr) (c:Nat) (b:List UInt8) (ho:y.ownsRow base 5 1 (.slice A b.length c) b.length (bvs b)) (hf:∀ g,(Value.slice A b.length c).ownBlock=some g→¬ zfj v xs g) :
  ∃ v' w' xs',(Builtin.append_ #[59,59] 59 #[v,.slice (some ⟨y.heap.size,0,none⟩) 1 1]).run Tryz.prog (y.alloc (.cells (rawC ⟨F,K,A,b.length,c,b⟩) 89)) = .ok v' w'∧AtW w w' base lo hi u v' xs' (rs++[⟨F,K,b⟩])∧xs'.length=xs.length+1∧Below w.heap.size w w':=by
 have HW4:Below y.heap.size y (y.alloc (.cells (rawC ⟨F,K,A,b.length,c,b⟩) 89)):=(Below.refl _ _).alloc (Nat.le_refl _) _
 obtain ⟨v5,w5,hrun,ho5,hg5,hat5⟩:=zgw (y.alloc (.cells (rawC ⟨F,K,A,b.length,c,b⟩) 89)) base 59 v xs (h.o.over HW4) ⟨F,K,A,b.length,c,b⟩ (za8 ho HW4) hf _ _ _ 1 (AtG.one (Blk.new y 89 (rawC ⟨F,K,A,b.length,c,b⟩))) (by omega) (Nat.le_trans h.b HW4.size)
 have hr:∀ k,v.ownBlock=some k→w.heap.size<k:=fun k hk=>by have h1:=(h.o.lt k (.inl hk)).1;omega
 have S5:=(h.s.on HW4).grown hg5 hr
 exact ⟨v5,w5,_,hrun,⟨ho5,by rw [List.map_append,h.r];rfl,S5,Nat.le_trans h.b (Nat.le_trans HW4.size hg5.size),h.n,h.k⟩,by rw [List.length_append];rfl,S5.bl⟩
end
theorem zt2 (a:Ats) (l:List Tb) (k:Nat) (h:l.length≤1):(preR a l k).length≤9:=by
 unfold preR
 split
 ·simp
 ·have h1:=zfw a 8
  rw [zg3] at h1
  rw [List.length_append,List.length_map,List.length_take]
  omega
theorem zsh {ok:Tb→Bool} {l:List TbP} (h:fewT ok (l.map TbP.tb)=true):l.length≤1∧∀ x∈l,ok x.tb=true:=by
 unfold fewT at h
 rw [Bool.and_eq_true,List.length_map] at h
 exact ⟨of_decide_eq_true h.1,fun x hx=>List.all_eq_true.1 h.2 _ (List.mem_map.2 ⟨x,hx,rfl⟩)⟩
theorem zf2 {u:UpP} (h:zc3 u.up=true):zbJ u.at_.ats=true∧(u.re.length≤1∧∀ x∈u.re,za1 true x.tb=true)∧(u.ne.length≤1∧∀ x∈u.ne,za1 false x.tb=true):=by
 unfold zc3 at h
 simp only [Bool.and_eq_true] at h
 obtain ⟨h1,h2,h3,_⟩:=h
 have g2:=zsh (l:=u.re) h2
 have g3:=zsh (l:=u.ne) h3
 refine ⟨h1,⟨g2.1,fun x hx=>?_⟩,g3⟩
 have h4:=g2.2 x hx
 unfold zc5 at h4
 rw [Bool.and_eq_true] at h4
 exact h4.1
def unR (P:List Rw) (l:List Tb) (k:Nat):List Rw:=P++(l.take k).map zmT
theorem zkh (P:List Rw) (l:List Tb):unR P l 0=P:=by unfold unR;simp
theorem zvA (P:List Rw) {l:List TbP} {x:TbP} (h:l[0]?=some x):unR P (l.map TbP.tb) 1=P++[⟨128,15,valT false x.tb⟩]:=by
 unfold unR
 cases l with
 | nil=>simp at h
 | cons y r =>
  have e:y=x:=by simpa using h
  subst e
  rfl
theorem zvB {P:List Rw} {l:List TbP} {n:Nat} (h:l.length=n):unR P (l.map TbP.tb) n=P++(l.map TbP.tb).map zmT:=by
 unfold unR
 rw [List.take_of_length_le (by rw [List.length_map];omega)]
theorem zrs (a:Ats) (l:List Tb):(preR a l 0).length≤20:=by unfold preR;simp
theorem zt1 (a:Ats) {l:List TbP} {x:TbP} (h:l[0]?=some x):preR a (l.map TbP.tb) 1=zeV a++[⟨128,14,valT true x.tb⟩]:=by
 unfold preR
 rw [if_neg (by decide)]
 cases l with
 | nil=>simp at h
 | cons y r =>
  have e:y=x:=by simpa using h
  subst e
  rfl
theorem ztW {xs:List RawP} {a:Ats} (h:xs.map RawP.raw=zeV a):xs.length≤8:=by
 have h1:=congrArg List.length h
 rw [List.length_map] at h1
 have h2:=zfw a 8
 rw [zg3] at h2
 omega
set_option maxRecDepth 20000 in
set_option maxHeartbeats 4000000 in
theorem zjD (w:World) (lo hi:Nat) (u:UpP) (h:UpAt w lo hi u) (hh:hi≤w.heap.size) (hfit:FitU u) (hN:zaM w) (hK:zdd w) (hr:zc3 u.up=true) :
  Calls Tryz.prog 21 #[.agg (updC u)] w fun e w'=>∃ v xs,e = .returned v∧zax w' w.heap.size 89 5 v xs∧xs.map RawP.raw=zbI u.up∧Below w.heap.size w w':=by
 obtain ⟨r1,r2,r3⟩:=zf2 hr
 obtain ⟨P0,rA,rn,rc,re,nA,nn,nc,ne⟩:=u
 have S0:=hide (UpS.start h hh)
 have HOB:P0.ob.length=16:=h.ob
 have HFT:=hide hfit
 have HNM:=hide hN
 have HKN:=hide hK
 have R1:=hide r1
 have R2:=hide r2
 have R3:=hide r3
 have HLR:Hid (re.length=rn):=hide h.re.len
 have HLN:Hid (ne.length=nn):=hide h.ne.len
 have hrn:rn≤1:=by rw [← HLR.out];exact r2.1
 have hnn:nn≤1:=by rw [← HLN.out];exact r3.1
 have c24:=S0.out.c24
 obtain ⟨base,hbase⟩:∃ base,(w.alloc (.cells (updC ⟨P0,rA,rn,rc,re,nA,nn,nc,ne⟩) 33)).heap.size=base:=⟨_,rfl⟩
 have hbw:w.heap.size<base:=by rw [← hbase];simp
 have HBS:=hide hbase
 clear h hfit hN hK hr r1 r2 r3 hbase
 go_enter Tryz.func21,Tryz.ntmps21
 go_wp2_with fail
 go_loopw [3,11] (fun v i wr=>∃ (k q c:Nat) (B:Option Addr) (xs:List RawP),k≤rn∧v = .slice B q c∧i = .int .i64 k∧xs.length=q∧AtW w wr base lo hi (⟨P0,rA,rn,rc,re,nA,nn,nc,ne⟩:UpP) (.slice B q c) xs (preR P0.ats (re.map TbP.tb) k)) (fun _ i _=>rn-(intOf i).toNat)
 case atStart=>exact ⟨0,0,0,none,[],Nat.zero_le _,rfl,rfl,rfl,⟨zax.nil _ _ _ _,rfl,S0.out,by rw [HBS.out];exact Nat.le_refl _,HNM.out,HKN.out⟩⟩
 case round =>
  obtain ⟨k,q,c,B,xs,hk,rfl,rfl,hql,hat⟩:=hrel
  have HA:=hide hat
  have HQL:=hide hql
  clear hat hql
  by_cases hlt:k<rn
  ·obtain rfl:k=0:=by omega
   have hkl:((0:Nat):Int)<(rn:Int):=by omega
   obtain ⟨b,o,x,rfl,hb1,hb2,hx,hat⟩:=HA.out.s.at_.re.row.at_ (sz:=21) (fun y hy=>zgm (HA.out.s.at_.re.sz y hy)) hlt
   have hmem:=List.mem_of_getElem? hx
   have HM:=hide (HA.out.s.at_.re.mem x hmem)
   have HW:=hide (HA.out.s.at_.re.sz x hmem)
   have XN:=hide (zcZ HW.out)
   have XF:=hide (HFT.out.re x hmem)
   have XR:=hide (R2.out.2 x hmem)
   have HX:=hide hx
   rw [Nat.zero_mul,Nat.add_zero] at hat
   have HAT:=hide hat
   have NEW:=hide (Blk.new wr 53 zTb)
   have HQ9:=hide (show q≤20 by have h1:=HA.out.r;have h2:=congrArg List.length h1;rw [List.length_map,HQL.out] at h2;rw [h2];exact zrs _ _)
   clear hx hat hmem
   go_wp2_with (first
    | ((with_reducible refine zan ?_ (.tmp 13) rfl b o rfl x HAT.out XN.out ?_);· rfl)
    | (refine zbW rfl (.tmp 5) (.tmp 14) rfl wr.heap.size rfl x rfl XN.out NEW.out rfl ?_;intro w2 hb2 hg2;have B2:=hide hb2;have W2:Hid (Below wr.heap.size wr w2):=hide (((Below.refl _ _).alloc (Nat.le_refl _) _).grown hg2 (by simp) (by simp));clear hb2 hg2;refine Hid.out ?_))
   refine hide ?_
   have A2:=hide (HA.out.on W2.out)
   have M2:=hide (mkTb _ _ _ _ _ (fun p _ hp=>W2.out.cell (by have:=HA.out.s.here;omega)) HM.out)
   clear NEW HA HM HAT
   have RA:=hide A2.out.s.ratt
   go_wp2_with ((with_reducible refine zaw ?_ (.tmp 16) rfl w.heap.size 0 rfl RA.out HOB ?_);· rfl)
   refine (zqb w2 lo hi P0 A2.out.s.at_.at_ A2.out.s.here A2.out.ky R1.out).mono ?_
   rintro e w3 ⟨v3,xs3,rfl,ho3,hr3,hb3⟩
   have A3:Hid (AtW w w3 base lo hi (⟨P0,some ⟨b,o,none⟩,rn,rc,re,nA,nn,nc,ne⟩:UpP) v3 xs3 (zeV P0.ats)):=hide ⟨ho3.more A2.out.b,hr3,A2.out.s.on hb3,Nat.le_trans A2.out.b hb3.size,HNM.out,HKN.out⟩
   have L3:=hide (ztW hr3)
   have M3:=hide (mkTb _ _ _ _ _ (fun p _ hp=>hb3.cell (by have:=A2.out.s.here;omega)) M2.out)
   have B3:=hide (B2.out.over hb3)
   obtain ⟨B9,c3,rfl,_,_⟩:=A3.out.o.shape
   clear ho3 hr3 hb3 A2 M2 B2 RA
   have RB:=hide (zaj (l:=tbL x) B3.out)
   go_wp2_with ((with_reducible refine zan ?_ (.tmp 5) rfl wr.heap.size 0 rfl x RB.out XN.out ?_);· rfl)
   refine (zes _ lo hi x true M3.out HW.out A3.out.s.here XF.out A3.out.ny XR.out).mono ?_
   rintro e w5 ⟨v5,rfl,ho5,hb5⟩
   obtain ⟨A9,c9,rfl,_,_⟩:=zac ho5
   have A5:=hide (A3.out.on hb5)
   obtain ⟨v7,w7,xs7,hrun,hat7,hl7,hb7⟩:=A5.out.push hbw (by have:=L3.out;omega) 128 14 A9 c9 (valT true x.tb) (zav ho5 A3.out.b) (fun g hg hbk=>by have h1:=(A3.out.o.lt g hbk).2;have h2:=(ho5.lt g hg).1;omega)
   have HRUN:=hide hrun
   have A7:=hide hat7
   have L7:=hide hl7
   clear hrun hat7 hl7 hb7 ho5 hb5 A3 A5 M3 B3 RB
   go_wp2_with (first
    | (with_reducible refine zcs rfl (.tmp 24) rfl ⟨128,14,A9,(valT true x.tb).length,c9,valT true x.tb⟩ rfl ?_)
    | (at_builtin;refine za2 rfl (.tmp 21) (.tmp 25) 59 59 59 rfl rfl rfl rfl HRUN.out ?_;refine Hid.out ?_))
   refine hide ?_
   obtain ⟨B7,c7,rfl,_,_⟩:=A7.out.o.shape
   go_wp2
   go_roundw
   case rel=>exact ⟨1,xs7.length,c7,B7,xs7,hlt,rfl,by go_num,rfl,by have:=A7.out;rw [zt1 _ HX.out];exact this⟩
   case measure=>simp [intOf];omega
  ·obtain rfl:k=rn:=by omega
   have hkl:¬ ((k:Nat):Int)<(k:Int):=by omega
   obtain ⟨P1,hP1⟩:∃ P1,preR P0.ats (re.map TbP.tb) k=P1:=⟨_,rfl⟩
   have HP1:=hide hP1
   have PRL:Hid ((unR P1 (ne.map TbP.tb) 0).length≤20):=hide (by rw [zkh,← hP1];have:=zt2 P0.ats (re.map TbP.tb) k (by rw [List.length_map];exact R2.out.1);omega)
   have k25:=HA.out.s.c25
   clear hP1
   go_wp2_with fail
   go_loopw [3,31] (fun v i wr=>∃ (j q c:Nat) (B:Option Addr) (xs:List RawP),j≤nn∧v = .slice B q c∧i = .int .i64 j∧xs.length=q∧AtW w wr base lo hi (⟨P0,rA,k,rc,re,nA,nn,nc,ne⟩:UpP) (.slice B q c) xs (unR P1 (ne.map TbP.tb) j)) (fun _ i _=>nn-(intOf i).toNat)
   case atStart=>exact ⟨0,q,c,B,xs,Nat.zero_le _,rfl,rfl,HQL.out,by have:=HA.out;rw [HP1.out] at this;rw [zkh];exact this⟩
   case round =>
    obtain ⟨j,q,c,B,xs,hj,rfl,rfl,hql,hat⟩:=hrel
    have HA:=hide hat
    have HQL:=hide hql
    clear hat hql
    by_cases hlt:j<nn
    ·obtain rfl:j=0:=by omega
     have hkl:((0:Nat):Int)<(nn:Int):=by omega
     obtain ⟨b,o,x,rfl,hb1,hb2,hx,hat⟩:=HA.out.s.at_.ne.row.at_ (sz:=21) (fun y hy=>zgm (HA.out.s.at_.ne.sz y hy)) hlt
     have hmem:=List.mem_of_getElem? hx
     have HM:=hide (HA.out.s.at_.ne.mem x hmem)
     have HW:=hide (HA.out.s.at_.ne.sz x hmem)
     have XN:=hide (zcZ HW.out)
     have XF:=hide (HFT.out.ne x hmem)
     have XR:=hide (R3.out.2 x hmem)
     have HX:=hide hx
     rw [Nat.zero_mul,Nat.add_zero] at hat
     have HAT:=hide hat
     have NEW:=hide (Blk.new wr 53 zTb)
     have HQ9:=hide (show q≤20 by have h1:=HA.out.r;have h2:=congrArg List.length h1;rw [List.length_map,HQL.out] at h2;rw [h2];exact PRL.out)
     clear hx hat hmem
     go_wp2_with (first
      | ((with_reducible refine zan ?_ (.tmp 33) rfl b o rfl x HAT.out XN.out ?_);· rfl)
      | (refine zbW rfl (.tmp 7) (.tmp 34) rfl wr.heap.size rfl x rfl XN.out NEW.out rfl ?_;intro w2 hb2 hg2;have B2:=hide hb2;have W2:Hid (Below wr.heap.size wr w2):=hide (((Below.refl _ _).alloc (Nat.le_refl _) _).grown hg2 (by simp) (by simp));clear hb2 hg2;refine Hid.out ?_))
     refine hide ?_
     have A2:=hide (HA.out.on W2.out)
     have M2:=hide (mkTb _ _ _ _ _ (fun p _ hp=>W2.out.cell (by have:=HA.out.s.here;omega)) HM.out)
     clear NEW HA HM HAT
     have A3:=hide A2.out
     have M3:=hide M2.out
     have B3:=hide B2.out
     clear A2 M2 B2
     have RB:=hide (zaj (l:=tbL x) B3.out)
     go_wp2_with ((with_reducible refine zan ?_ (.tmp 7) rfl wr.heap.size 0 rfl x RB.out XN.out ?_);· rfl)
     refine (zes _ lo hi x false M3.out HW.out A3.out.s.here XF.out A3.out.ny XR.out).mono ?_
     rintro e w5 ⟨v5,rfl,ho5,hb5⟩
     obtain ⟨A9,c9,rfl,_,_⟩:=zac ho5
     have A5:=hide (A3.out.on hb5)
     obtain ⟨v7,w7,xs7,hrun,hat7,hl7,hb7⟩:=A5.out.push hbw (by rw [HQL.out];have:=HQ9.out;omega) 128 15 A9 c9 (valT false x.tb) (zav ho5 A3.out.b) (fun g hg hbk=>by have h1:=(A3.out.o.lt g hbk).2;have h2:=(ho5.lt g hg).1;omega)
     have HRUN:=hide hrun
     have A7:=hide hat7
     have L7:=hide hl7
     clear hrun hat7 hl7 hb7 ho5 hb5 A3 A5 M3 B3 RB
     go_wp2_with (first
      | (with_reducible refine zcs rfl (.tmp 38) rfl ⟨128,15,A9,(valT false x.tb).length,c9,valT false x.tb⟩ rfl ?_)
      | (at_builtin;refine za2 rfl (.tmp 35) (.tmp 39) 59 59 59 rfl rfl rfl rfl HRUN.out ?_;refine Hid.out ?_))
     refine hide ?_
     obtain ⟨B7,c7,rfl,_,_⟩:=A7.out.o.shape
     go_wp2
     go_roundw
     case rel=>exact ⟨1,xs7.length,c7,B7,xs7,hlt,rfl,by go_num,rfl,by have:=A7.out;rw [zvA _ HX.out];rwa [zkh] at this⟩
     case measure=>simp [intOf];omega
    ·obtain rfl:j=nn:=by omega
     have hkl:¬ ((j:Nat):Int)<(j:Int):=by omega
     go_wp2
     go_ret
     exact ⟨_,rfl,xs,HA.out.o.more (by omega),by rw [HA.out.r,← HP1.out,zvB HLN.out];unfold zbI;rw [show (UpP.up ⟨P0,rA,k,rc,re,nA,j,nc,ne⟩).re.length=k by show (re.map TbP.tb).length=k;rw [List.length_map];exact HLR.out];rfl,HA.out.s.bl⟩
end
section
open Go.RowKit
def zhG (u:Up):List UInt8:=0::0::(be 2 (zcM (zbI u)).length++zcM (zbI u))
def zel (u:Up):Int:=if zc3 u=false then 1 else if zds (zbI u)≠0 then zds (zbI u) else if 4077<4+(zcM (zbI u)).length then 2 else 0
def zg6 (u:Up):List UInt8:=if zel u=0 then zhG u else []
def zh6 (w:World) (u:Up) (e:Ending) (w':World):Prop :=
 ∃ v,e = .returned (.tuple #[v,.int .i64 (zel u)])∧w'.ownsRow w.heap.size 5 1 v (zg6 u).length (bvs (zg6 u))∧Below w.heap.size w w'
theorem zna (l:List Rw):(zcM l).length≤262400:=by
 unfold zcM
 split
 ·rename_i h
  unfold zds at h
  split at h
  ·cases h
  ·have h1:=zgc h
   have h2:l.length*4100≤64*4100:=Nat.mul_le_mul_right _ (by omega)
   omega
 ·simp
theorem znw {w w':World} {u:Up} {k:Int} (h:zel u=k) (hk:k≠0) (hb:Below w.heap.size w w'):zh6 w u (.returned (.tuple #[.slice none 0 0,.int .i64 k])) w':=by
 have e:zg6 u=[]:=if_neg (by rw [h];exact hk)
 refine ⟨.slice none 0 0,by rw [h],?_,hb⟩
 rw [e]
 exact World.ownsRow_nil _ _ _ _
set_option maxRecDepth 20000 in
set_option maxHeartbeats 2000000 in
theorem zll (w:World) (lo hi:Nat) (u:UpP) (h:UpAt w lo hi u) (hh:hi≤w.heap.size) (hfit:FitU u) (hN:zaM w) (hK:zdd w) :
  Calls Tryz.prog 9 #[.agg (updC u)] w (zh6 w u.up):=by
 obtain ⟨i0,hi0,hz0,hz1,hz2⟩:=info_parts zbz
 have Q0:Hid (UkS w (w.alloc (.cells (updC u) 33)) lo hi u):=hide ⟨UpS.start h hh,hN.below ((Below.refl _ _).alloc (Nat.le_refl _) _),hK.below ((Below.refl _ _).alloc (Nat.le_refl _) _)⟩
 have HOB:=h.ob
 have HFT:=hide hfit
 have RG0:=hide Q0.out.s.rng
 obtain ⟨r,hr⟩:∃ r,zc3 u.up=r:=⟨_,rfl⟩
 have HR:=hide hr
 clear h hfit hN hK hr
 go_enter Tryz.func9,Tryz.ntmps9
 go_wp2_with ((with_reducible refine zaV ?_ (.tmp 1) rfl w.heap.size 0 rfl u RG0.out HOB ?_);· rfl)
 refine (zo5 _ lo hi u Q0.out.s.at_ Q0.out.s.here HFT.out Q0.out.n).mono ?_
 rw [HR.out]
 rintro e w1 ⟨rfl,hb1⟩
 have Q1:=hide (Q0.out.on hb1)
 have RG1:=hide Q1.out.s.rng
 clear hb1 Q0 RG0
 cases r
 ·have HE:Hid (zel u.up=1):=hide (if_pos HR.out)
  go_wp2
  go_ret2
  exact znw HE.out (by decide) Q1.out.s.bl
 ·go_wp2_with ((with_reducible refine zaV ?_ (.tmp 1) rfl w.heap.size 0 rfl u RG1.out HOB ?_);· rfl)
  refine (zjD w1 lo hi u Q1.out.s.at_ Q1.out.s.here HFT.out Q1.out.n Q1.out.k HR.out).mono ?_
  rintro e w2 ⟨v2,xs,rfl,ho2,hr2,hb2⟩
  obtain ⟨A2,c2,rfl,_,_⟩:=ho2.shape
  have S2:=hide (Q1.out.s.on hb2)
  have X2:=hide (ho2.at_ (n:=xs.length) rfl)
  have RW:=hide hr2
  clear ho2 hr2 hb2 Q1 RG1
  go_wp2_with fail
  refine (zs0 w2 _ _ A2 xs.length c2 xs X2.out (Nat.le_refl _)).mono ?_
  rw [RW.out]
  rintro e w3 ⟨v3,rfl,ho3,hb3⟩
  have S3:=hide (S2.out.on hb3)
  have HJS:=hide (zna (zbI u.up))
  have HE:Hid (zel u.up=if zds (zbI u.up)≠0 then zds (zbI u.up) else if 4077<4+(zcM (zbI u.up)).length then 2 else 0):=hide (if_neg (by rw [HR.out];decide))
  have HBD:Hid (zhG u.up=0::0::(be 2 (zcM (zbI u.up)).length++zcM (zbI u.up))):=hide rfl
  generalize zcM (zbI u.up)=jb at *
  generalize zds (zbI u.up)=je at *
  obtain ⟨A3,c3,rfl,_,_⟩:=zac ho3
  have T3:=hide (At.own ho3)
  clear ho3 hb3 S2 X2
  by_cases hj:je=0
  ·subst hj
   have HE2:Hid (zel u.up=if 4077<4+jb.length then 2 else 0):=hide (by rw [HE.out];rfl)
   have hjI:(jb.length:Int)≤262400:=by have:=HJS.out;omega
   by_cases hl:4077<4+jb.length
   ·have hlI:(4077:Int)<4+(jb.length:Int):=by omega
    have HE3:Hid (zel u.up=2):=hide (by rw [HE2.out,if_pos hl])
    clear HE HE2 hl
    go_wp2
    go_ret2
    exact znw HE3.out (by decide) S3.out.bl
   ·have hlI:¬ (4077:Int)<4+(jb.length:Int):=by omega
    have HE3:Hid (zel u.up=0):=hide (by rw [HE2.out,if_neg hl])
    have HOUT:Hid (zg6 u.up=0::0::(be 2 jb.length++jb)):=hide (by unfold zg6;rw [if_pos HE3.out,HBD.out])
    have hj2:jb.length<65536:=by omega
    have Z4:=hide (zsT w3 2 5)
    have B4:Hid (Below w3.heap.size w3 (w3.alloc (.cells (madeCells #[.int .u8 0] 2) 5))):=hide ((Below.refl _ _).alloc (Nat.le_refl _) _)
    have hz4:(w3.alloc (.cells (madeCells #[.int .u8 0] 2) 5)).heap.size=w3.heap.size+1:=by simp
    clear HE HE2 hl HBD
    go_wp2_with (refine zbX rfl (.const (.int .i64 2)) (.const (.int .i64 2)) 36 rfl 5 i0 Tryz.underlying36 hi0 hz0 hz1 hz2 2 2 _ rfl rfl rfl (Nat.le_refl _) (by decide) ?_)
    refine (zd5 _ _ _ (some ⟨w3.heap.size,0,none⟩) 2 2 [0,0] Z4.out (by rw [hz4];exact Nat.le_refl _) (by decide) jb.length 2 (by decide) (by decide) (by omega)).mono ?_
    rintro e w5 ⟨v5,rfl,ho5,hb5⟩
    obtain ⟨A5,c5,rfl,_,_⟩:=zac ho5
    have S5:=hide ((S3.out.on B4.out).on hb5)
    have T5:=hide ((T3.out.below B4.out).below (hb5.mono (by rw [hz4];omega)))
    have HO5:=hide (zav ho5 (Nat.le_trans S3.out.bl.size B4.out.size))
    clear ho5 hb5 S3 Z4 T3 B4 hz4 hlI
    go_wp2_with (at_builtin;go_must (refine zag _ rfl (.tmp 31) (.tmp 32) 36 rfl w.heap.size 5 i0 Tryz.underlying36 hi0 hz0 hz1 hz2 _ (2+2) ([0,0]++be 2 jb.length) rfl HO5.out _ _ A3 jb.length c3 jb rfl T5.out (by omega) S5.out.bl.size ?_);intro v6 w6 hown6 hg6 hat6;have HO6:=hide hown6;have HG6:=hide hg6;clear hown6 hg6 hat6)
    go_ret2
    refine ⟨v6,by rw [HE3.out];rfl,?_,S5.out.bl.grown HG6.out S5.out.bl.size (fun g hg=>(HO5.out.lt g hg).1)⟩
    rw [HOUT.out]
    have h1:=HO6.out
    have h2:(0::0::(be 2 jb.length++jb)).length=2+2+jb.length:=by simp [zb5];omega
    rw [h2]
    simpa using h1
  ·have HE2:Hid (zel u.up=je):=hide (by rw [HE.out];exact if_pos hj)
   have hjb:(je==0)=false:=beq_eq_false_iff_ne.2 hj
   have HJ:=hide hj
   have hjn:(je != 0)=true:=by rw [bne_iff_ne];exact hj
   clear HE hj
   go_wp2
   go_ret2
   exact znw HE2.out HJ.out S3.out.bl
end
section
open Go.RowKit
theorem zny (L:Nat):be 2 L=[UInt8.ofNat (L/256%256),UInt8.ofNat (L%256)]:=rfl
theorem zp4 (J:List UInt8) (h:J.length<65536):ownB (0::0::(be 2 J.length++J))=J∧badB (0::0::(be 2 J.length++J))=false:=by
 obtain ⟨a1,a2,a3⟩:=ziP 0 0 (be 2 J.length++J)
 have e1:spN (0::0::(be 2 J.length++J))=0:=a1
 have hs0:zbs (be 2 J.length++J) ((0:Nat):Int)=true:=by unfold zbs;simp;omega
 have e2:spR (0::0::(be 2 J.length++J))=be 2 J.length++J:=by
  unfold spR
  rw [e1,a2]
  unfold zaf
  rw [if_pos hs0]
  rfl
 have e3:be 2 J.length++J=UInt8.ofNat (J.length/256%256)::UInt8.ofNat (J.length%256)::J:=by rw [zny];rfl
 obtain ⟨b1,b2,b3⟩:=ziP (UInt8.ofNat (J.length/256%256)) (UInt8.ofNat (J.length%256)) J
 have e4:spM (0::0::(be 2 J.length++J))=J.length:=by
  unfold spM
  rw [e2,e3,b1]
  simp
  omega
 have hs1:zbs J ((J.length:Nat):Int)=true:=by unfold zbs;simp
 refine ⟨?_,?_⟩
 ·unfold ownB
  rw [e4,e2,e3,b2]
  exact zig J
 ·unfold badB
  rw [e4,e2,e1,a2,a3,hs0,e3,b2,b3,hs1]
  rfl
theorem zp3 {l:List Rw} (h:zds l=0) (hl:(zcM l).length<65536):zdI (0::0::(be 2 (zcM l).length++zcM l))=true∧(zcy (ownB (0::0::(be 2 (zcM l).length++zcM l)))).1=l:=by
 obtain ⟨h1,h2⟩:=zp4 (zcM l) hl
 unfold zdI
 rw [h1,h2,zoV h]
 exact ⟨rfl,rfl⟩
structure UpW (u:Up):Prop where
 at_:u.at_.W
 re:∀ t∈u.re,t.W
 un:∀ t∈u.un,t.W
theorem zfB {ok:Tb→Bool} {l:List Tb} (h:fewT ok l=true):l=[]∨∃ t,l=[t]∧ok t=true:=by
 unfold fewT at h
 rw [Bool.and_eq_true] at h
 match l,h with
 | [],_=>exact .inl rfl
 | [t],h=>exact .inr ⟨t,rfl,by simpa using h.2⟩
 | _::_::_,h=>simp at h
theorem zoc {t:Tb} (h:zc5 t=true):za1 true t=true∧hasT t=true:=by
 unfold zc5 at h
 rw [Bool.and_eq_true] at h
 exact h
def itsU (u:Up):List Item:=if u.re.length=0 then [] else ze9 u.at_
def rtsU (u:Up):List Rw:=u.re.map zrm++u.un.map zmT
theorem zgd (u:Up):zbI u=(itsU u).map Item.rw++rtsU u:=by
 unfold zbI preR itsU rtsU
 by_cases h:u.re.length=0
 ·rw [if_pos h,if_pos h,List.eq_nil_of_length_eq_zero h]
  rfl
 ·rw [if_neg h,if_neg h,List.take_length]
  unfold zeV
  rw [List.append_assoc]
theorem ztn {u:Up} (w:UpW u) (hr:zc3 u=true):tabs (rtsU u)=(u.re,u.un,0):=by
 unfold zc3 at hr
 simp only [Bool.and_eq_true] at hr
 obtain ⟨_,h2,h3,_⟩:=hr
 unfold rtsU
 have w1:=w.re
 have w2:=w.un
 rcases zfB h2 with e1 | ⟨t,e1,ht⟩ <;> rcases zfB h3 with e2 | ⟨s,e2,hs⟩ <;> rw [e1] at w1 <;> rw [e2] at w2 <;> rw [e1,e2]
 ·rfl
 ·have hW:=w2 s (by simp)
  simp [tabs,zcf,zmT,zkx hW hs (by simp),ziJ hW hs]
 ·have hW:=w1 t (by simp)
  obtain ⟨g1,g2⟩:=zoc ht
  simp [tabs,zcf,zrm,zkx hW g1 (fun _=>g2),ziJ hW g1]
 ·have hW:=w1 t (by simp)
  obtain ⟨g1,g2⟩:=zoc ht
  have hW2:=w2 s (by simp)
  simp [tabs,zcf,zrm,zmT,zkx hW g1 (fun _=>g2),ziJ hW g1,zkx hW2 hs (by simp),ziJ hW2 hs]
theorem zhb (i:Item):zcj i.kind=true:=by cases i <;> rfl
theorem ziy (u:Up):∀ y∈rtsU u,(y.k=14∨y.k=15)∧y.f=128:=by
 intro y hy
 rcases List.mem_append.1 hy with hy | hy
 ·obtain ⟨t,_,rfl⟩:=List.mem_map.1 hy
  exact ⟨.inl rfl,rfl⟩
 ·obtain ⟨t,_,rfl⟩:=List.mem_map.1 hy
  exact ⟨.inr rfl,rfl⟩
theorem zm7 {u:Up} (hr:zc3 u=true):(((itsU u).map Item.rw++rtsU u).map Rw.k).Pairwise (· ≠ ·):=by
 unfold zc3 at hr
 simp only [Bool.and_eq_true] at hr
 obtain ⟨_,h2,h3,_⟩:=hr
 rw [List.map_append,List.pairwise_append]
 refine ⟨?_,?_,?_⟩
 ·have e:((itsU u).map Item.rw).map Rw.k=(itsU u).map Item.kind:=by rw [List.map_map];rfl
  rw [e,List.pairwise_map]
  unfold itsU
  split
  ·exact List.Pairwise.nil
  ·exact (zpF u.at_).imp (fun h=>by omega)
 ·unfold rtsU
  rcases zfB h2 with e1 | ⟨t,e1,ht⟩ <;> rcases zfB h3 with e2 | ⟨s,e2,hs⟩ <;> rw [e1,e2] <;> simp [zrm,zmT]
 ·intro a ha b hb
  obtain ⟨x,hx,rfl⟩:=List.mem_map.1 ha
  obtain ⟨i,_,rfl⟩:=List.mem_map.1 hx
  obtain ⟨y,hy,rfl⟩:=List.mem_map.1 hb
  have h4:=zhb i
  have h5:=(ziy u y hy).1
  unfold zcj at h4
  simp only [decide_eq_true_eq] at h4
  show i.kind≠y.k
  omega
theorem zfC {u:Up} (h:zel u=0):zc3 u=true∧zds (zbI u)=0∧(zcM (zbI u)).length≤4073∧zg6 u=zhG u:=by
 have ho:zg6 u=zhG u:=if_pos h
 unfold zel at h
 split at h
 ·cases h
 ·rename_i h1
  split at h
  ·rename_i h2;exact absurd h h2
  ·rename_i h2
   split at h
   ·cases h
   ·exact ⟨by cases hq:zc3 u;exact absurd hq h1;rfl,by simpa using h2,by omega,ho⟩
theorem znl {x:Rw} (h:za6 x=0):x.v.length≤4096:=by
 unfold za6 at h
 split at h
 ·cases h
 ·split at h
  ·cases h
  ·omega
theorem zm9 {l:List Rw} (h:zds l=0):l.length≤64∧∀ x∈l,x.v.length≤4096:=by
 unfold zds at h
 split at h
 ·cases h
 ·exact ⟨by omega,fun x hx=>znl (zb6.1 h x hx)⟩
end
section
open Go.RowKit
theorem zsk {k:Int} {v:List UInt8} (hk:k=14∨k=15):za6 ⟨128,k,v⟩=0∨za6 ⟨128,k,v⟩=2:=by
 have h1:¬ ((128:Int)<0∨(255:Int)<128∨zb9 (128:Int).toNat=true∨k<0∨255<k):=by
  have h2:zb9 (128:Int).toNat=false:=by decide
  rintro (h | h | h | h | h)
  ·omega
  ·omega
  ·rw [h2] at h;cases h
  ·omega
  ·omega
 unfold za6
 rw [if_neg h1]
 show (if 4096<v.length then (2:Int) else 0)=0∨(if 4096<v.length then (2:Int) else 0)=2
 split
 ·exact .inr rfl
 ·exact .inl rfl
theorem zsJ (u:Up):zds (zbI u)=0∨zds (zbI u)=2:=by
 unfold zds
 split
 ·exact .inr rfl
 ·refine zj5 fun x hx=>?_
  rw [zgd] at hx
  rcases List.mem_append.1 hx with hx | hx
  ·obtain ⟨i,_,rfl⟩:=List.mem_map.1 hx
   exact zum i
  ·unfold rtsU at hx
   rcases List.mem_append.1 hx with hx | hx
   ·obtain ⟨t,_,rfl⟩:=List.mem_map.1 hx
    exact zsk (.inl rfl)
   ·obtain ⟨t,_,rfl⟩:=List.mem_map.1 hx
    exact zsk (.inr rfl)
theorem znj (u:Up):zel u=0∨zel u=2∨(zel u=1∧zc3 u=false):=by
 unfold zel
 split
 ·rename_i h;exact .inr (.inr ⟨rfl,h⟩)
 ·split
  ·rename_i h
   rcases zsJ u with h1 | h1
   ·exact absurd h1 h
   ·exact .inr (.inl h1)
  ·split
   ·exact .inr (.inl rfl)
   ·exact .inl rfl
theorem UpAt.W {w:World} {lo hi:Nat} {u:UpP} (h:UpAt w lo hi u):UpW u.up :=
 ⟨h.at_.W,(fun t ht=>by obtain ⟨x,hx,rfl⟩:=List.mem_map.1 ht;exact h.re.sz x hx),(fun t ht=>by obtain ⟨x,hx,rfl⟩:=List.mem_map.1 ht;exact h.ne.sz x hx)⟩
theorem zwz {w:World} {lo hi:Nat} {p:AtP} (h:zar w lo hi p) (hf:fewA p=true):∀ t∈p.ats.tn,t.id.length≤1024:=fun t ht=>by
 obtain ⟨x,hx,rfl⟩:=List.mem_map.1 ht
 have h1:=(zj4 hf).2.1 x hx
 have h2:x.id.length=x.n:=(h.tl.mem x hx).1.len
 show x.id.length≤1024
 omega
theorem zl6 {u:UpP} (h:zhc u=true):fewA u.at_=true∧zgb u.rn u.re=true∧zgb u.nn u.ne=true:=by
 unfold zhc at h
 simp only [Bool.and_eq_true] at h
 exact h
theorem zot {p:AtP} (h:fewA p=true):Fit9 p:=by
 obtain ⟨f1,f2,f3,f4,f5,f6⟩:=zj4 h
 exact ⟨by omega,fun x hx=>by have:=f1 x hx;omega,by omega,by omega,by omega⟩
theorem zuw {u:UpP} (h:zhc u=true):FitU u∧FitS u:=by
 obtain ⟨h1,h2,h3⟩:=zl6 h
 obtain ⟨r1,r2⟩:=zi1 h2
 obtain ⟨n1,n2⟩:=zi1 h3
 have ft:∀ x:TbP,zeD x=true→FitT x:=fun x hx=>by
  obtain ⟨a1,a2,a3⟩:=zi2 hx
  exact ⟨by omega,by omega,fun m hm=>by have:=a3 m hm;omega⟩
 have fs:∀ x:TbP,zeD x=true→x.mn≤1000000000∧x.un≤1000000000:=fun x hx=>by
  obtain ⟨a1,a2,_⟩:=zi2 hx
  exact ⟨by omega,by omega⟩
 exact ⟨⟨fun _=>zot h1,fun x hx=>ft x (r1 x hx),fun x hx=>ft x (n1 x hx)⟩,⟨zot h1,by omega,by omega,fun x hx=>fs x (r1 x hx),fun x hx=>fs x (n1 x hx)⟩⟩
theorem zp6 (u:Up):(zhG u).length=4+(zcM (zbI u)).length:=by
 unfold zhG
 simp only [List.length_cons,List.length_append,zb5]
 omega
theorem zrx {u:Up} (h:zel u=0):(zg6 u).length≤4077:=by
 obtain ⟨_,_,h3,h4⟩:=zfC h
 rw [h4,zp6]
 omega
section
variable {ops:Array Oper} {rest:List Oper} {o:Oper} {a:Act} {w:World} {Q:Exit→Act→World→Prop}
end
end
section
open Go.RowKit
def tlU (u:Up):List Rw:=((ze9 u.at_).drop 1).map Item.rw++rtsU u
theorem zhh {u:Up} (h:u.re.length≠0):zbI u=Item.rw (.origin u.at_.o)::tlU u:=by
 rw [zgd]
 unfold itsU tlU
 rw [if_neg h]
 rfl
def spR1 (og:UInt8):Rw:=⟨64,1,[og]⟩
def zp5 (u:Up) (og:UInt8):List UInt8:=0::0::(be 2 (zcM (spR1 og::tlU u)).length++zcM (spR1 og::tlU u))
theorem zr0 {r r':Rw} {tl:List Rw} (h:zds (r::tl)=0) (h':za6 r'=0):zds (r'::tl)=0:=by
 unfold zds at h ⊢
 split at h
 ·exact absurd h (by decide)
 ·rename_i h1
  rw [if_neg (by simpa using h1)]
  rw [zb6] at h ⊢
  intro x hx
  rcases List.mem_cons.1 hx with rfl | hx
  ·exact h'
  ·exact h x (List.mem_cons_of_mem _ hx)
theorem zj1 {r:Rw} {tl:List Rw} (h:zds (r::tl)=0):zcM (r::tl)=zbd r++zbf tl:=by
 unfold zcM
 rw [if_pos h]
 rfl
theorem zsr (z:UInt8):zbd (spR1 z)=[64,1,1,z]:=rfl
theorem zuz (z:UInt8):za6 (spR1 z)=0:=by
 have h1:¬ ((64:Int)<0∨(255:Int)<64∨zb9 (64:Int).toNat=true∨(1:Int)<0∨(255:Int)<1):=by
  have h2:zb9 (64:Int).toNat=false:=by decide
  rintro (h | h | h | h | h)
  ·omega
  ·omega
  ·rw [h2] at h;cases h
  ·omega
  ·omega
 unfold za6
 show (if ((64:Int)<0∨(255:Int)<64∨zb9 (64:Int).toNat=true∨(1:Int)<0∨(255:Int)<1) then (1:Int) else if 4096<[z].length then 2 else 0)=0
 rw [if_neg h1,if_neg (by simp)]
structure SpB (u:Up) (og x y z:UInt8) (t:List UInt8):Prop where
 b:zhG u=0::0::x::y::64::1::1::z::t
 s:zp5 u og=0::0::x::y::64::1::1::og::t
 j:zds (spR1 og::tlU u)=0
 l:(zcM (spR1 og::tlU u)).length≤4073
theorem zjO {u:Up} (he:zel u=0) (h:u.re.length≠0) (og:UInt8):∃ x y z t,SpB u og x y z t:=by
 obtain ⟨_,hj,hl,_⟩:=zfC he
 have e0:Item.rw (.origin u.at_.o)=spR1 (UInt8.ofNat u.at_.o.toNat):=rfl
 rw [zhh h,e0] at hj hl
 have hj2:=zr0 hj (zuz og)
 have e1:=zj1 hj
 have e2:=zj1 hj2
 rw [zsr] at e1 e2
 have hlen:(zcM (spR1 og::tlU u)).length=(zcM (spR1 (UInt8.ofNat u.at_.o.toNat)::tlU u)).length:=by rw [e1,e2];simp
 obtain ⟨L,hL⟩:∃ L,(zcM (spR1 (UInt8.ofNat u.at_.o.toNat)::tlU u)).length=L:=⟨_,rfl⟩
 refine ⟨UInt8.ofNat (L/256%256),UInt8.ofNat (L%256),UInt8.ofNat u.at_.o.toNat,zbf (tlU u),⟨?_,?_,hj2,by omega⟩⟩
 ·unfold zhG
  rw [zhh h,e0,hL,zny,e1]
  rfl
 ·unfold zp5
  rw [hlen,hL,zny,e2]
  rfl
theorem ztC (u:Up) (og:UInt8):(spR1 og::tlU u).filter (fun r=>!zcj r.k)=rtsU u:=by
 have h1:zcj (spR1 og).k=true:=rfl
 have h2:(((ze9 u.at_).drop 1).map Item.rw).filter (fun r=>!zcj r.k)=[]:=by
  rw [List.filter_eq_nil_iff]
  intro x hx
  obtain ⟨i,_,rfl⟩:=List.mem_map.1 hx
  have h2:zcj i.rw.k=true:=zhb i
  rw [h2];decide
 have h3:(rtsU u).filter (fun r=>!zcj r.k)=rtsU u:=by
  rw [List.filter_eq_self]
  intro x hx
  rcases (ziy u x hx).1 with h2 | h2 <;> rw [h2] <;> rfl
 unfold tlU
 rw [List.filter_cons,h1,List.filter_append,h2,h3]
 rfl
def zuX (w:World) (u:Up) (e:Ending) (w':World):Prop :=
 ∃ U:UpP,e = .returned (.tuple #[.agg (updC U),.int .i64 2,.agg (zf5 0 0)])∧UpAt w' w.heap.size w'.heap.size U∧U.up=⟨zci,[],u.re.map zjo++u.un⟩∧Below w.heap.size w w'
theorem zqv (w:World) (lo hi:Nat) (A:Option Addr) (n c:Nat) (u:Up) (hW:UpW u) (he:zel u=0) (hre:u.re.length≠0) (og:UInt8) (hog:3≤og.toNat) (h:At w lo hi A n (zp5 u og)) (hh:hi≤w.heap.size) (hn:n≤800000) (hN:zaM w) (hK:zdd w) :
  Calls Tryz.prog 11 #[.slice A n c] w (zuX w u):=by
 obtain ⟨hr,_,_,_⟩:=zfC he
 obtain ⟨_,_,_,_,hsp⟩:=zjO he hre og
 obtain ⟨hw,hraws⟩:=zp3 hsp.j (by have:=hsp.l;omega)
 obtain ⟨hlen,hval⟩:=zm9 hsp.j
 have hl0:(zp5 u og).length=n:=h.len
 have hin:∀ x∈rtsU u,x∈spR1 og::tlU u:=fun x hx=>List.mem_cons_of_mem _ (List.mem_append.2 (.inr hx))
 refine (zjI w lo hi A n c (zp5 u og) h hh (by omega) hN (fun _ rest o=>rest=rtsU u∧o=2) ?_ ?_ ?_).mono ?_
 ·rintro a rest o ⟨rfl,_⟩ _
  refine ⟨?_,fun x hx=>by have:=hval x (hin x hx);omega⟩
  unfold tlU at hlen
  simp only [List.length_cons,List.length_append] at hlen
  omega
 ·intro wr A' n' c' ys hy hraw _ hb
  have hraw':ys.map RawP.raw=spR1 og::tlU u:=hraw.trans hraws
  obtain ⟨f1,f2⟩:=zpi hy hraw
  have hyl:ys.length=n':=hy.len
  have hk:∀ x∈ys,zcj x.k=true∨((x.k=14∨x.k=15)∧x.f=128):=fun x hx=>by
   have h1:x.raw∈spR1 og::tlU u:=by rw [← hraw'];exact List.mem_map_of_mem (f:=RawP.raw) hx
   rcases List.mem_cons.1 h1 with h2 | h2
   ·refine .inl ?_
    have h3:x.k=1:=congrArg Rw.k h2
    rw [h3];rfl
   ·rcases List.mem_append.1 h2 with h2 | h2
    ·obtain ⟨i,_,h3⟩:=List.mem_map.1 h2
     have h4:i.kind=x.k:=congrArg Rw.k h3
     rw [← h4]
     exact .inl (zhb i)
    ·exact .inr (ziy u x.raw h2)
  have hd:(ys.map RawP.k).Pairwise (· ≠ ·):=by
   have h1:=zm7 hr
   rw [← zgd,zhh hre] at h1
   have h2:=congrArg (List.map Rw.k) hraw'
   rw [List.map_map] at h2
   have h3:ys.map RawP.k=(Item.rw (.origin u.at_.o)::tlU u).map Rw.k:=h2
   rw [h3];exact h1
  match ys,hraw',hyl with
  | x0::ys',hraw',hyl =>
   have hx0:x0.raw=spR1 og:=(List.cons.inj hraw').1
   have hn0:0<n':=by rw [← hyl];simp
   refine (zlK wr _ _ A' n' c' (x0::ys') hy (Nat.le_refl _) (by omega) (fun x hx=>(f2 x hx).1) (fun x hx=>by have:=(f2 x hx).2;omega) (hK.below hb)).mono fun e w' hg=>?_
   refine zjc.imp (fun a r o hj=>?_) hg
   obtain ⟨q,⟨hq,_⟩,rfl⟩:=hj
   obtain ⟨q1,q2⟩:=hq.held hk hd
   have q3:=hq.spoilt (x0:=x0) rfl (congrArg Rw.k hx0) (congrArg Rw.v hx0) hog hn0
   refine ⟨?_,?_⟩
   ·rw [q2,List.take_of_length_le (by omega),← ztC u og,← hraw',List.filter_map]
    rfl
   ·unfold finO
    split <;> omega
 ·rintro wr A' n' c' ys _ _ _ _ ⟨a,rest,_,h3⟩
  exact absurd h3 (by decide)
 ·rintro e w' ⟨U,o,nc,ns,rfl,hu,ho,hb⟩
  have ht:=ztn hW hr
  have key:U.up=⟨zci,[],u.re.map zjo++u.un⟩∧o=2∧nc=0∧ns=0:=by
   generalize hU:U.up=V at ho
   cases ho with
   | torn h1=>exact absurd (hw.symm.trans h1) (by decide)
   | reset a rest s _ h2=>exact absurd h2.2 (by decide)
   | table a rest o _ h2 _ h4 =>
    obtain ⟨rfl,rfl⟩:=h2
    rw [ht] at h4
    exact absurd (show max (2:Int) 0=3 from h4) (by decide)
   | held a rest o _ h2 _ h4 =>
    obtain ⟨rfl,rfl⟩:=h2
    rw [ht]
    exact ⟨rfl,rfl,rfl,rfl⟩
   | reach a rest o m _ h2 _ h4 _ h6 _ =>
    obtain ⟨rfl,rfl⟩:=h2
    rw [ht] at h4
    exact absurd (h4.symm.trans (show max (2:Int) 0=2 by decide)) h6
   | none a rest o m _ h2 _ h4 _ h6 _ =>
    obtain ⟨rfl,rfl⟩:=h2
    rw [ht] at h4
    exact absurd (h4.symm.trans (show max (2:Int) 0=2 by decide)) h6
  obtain ⟨k1,rfl,rfl,rfl⟩:=key
  exact ⟨U,rfl,hu,k1,hb⟩
end
section
open Go.RowKit
theorem zpg {ys:List RawP} {a:Ats} {rest:List Rw} {o:Int} {r:Rw} (h:zjE ys 1 a rest o) (e:ys.map RawP.raw=[r]) (hk:r.k=15) (hf:r.f=128):a=zci∧rest=[r]∧o=0:=by
 match ys,e with
 | [y],e =>
  have er:y.raw=r:=by simpa using e
  cases h with
  | step h1 hx hs =>
   cases h1 with
   | start =>
    have hy:y=_:=Option.some.inj hx
    subst hy
    rw [er] at hs
    unfold zp9 at hs
    rw [hk,hf] at hs
    rcases hs with ⟨hkn,_⟩ | ⟨_,rfl,⟨hc,_⟩ | ⟨_,rfl,rfl⟩⟩ | ⟨_,_,h15,_⟩
    ·exact absurd hkn (by decide)
    ·exact absurd hc (by simp [cntK])
    ·exact ⟨rfl,rfl,rfl⟩
    ·exact absurd rfl h15
theorem zjH (w:World) (lo hi:Nat) (A:Option Addr) (n c:Nat) (b:List UInt8) (h:At w lo hi A n b) (hh:hi≤w.heap.size) (hn:n≤140737488355328) (hN:zaM w) (hK:zdd w) (r:Rw)
  (hraws:(zcy (ownB b)).1=[r]) (hk:r.k=15) (hf:r.f=128) (hv:r.v.length≤800000) :
  Calls Tryz.prog 11 #[.slice A n c] w (zjd w b (fun a l' o=>a=zci∧l'=[r]∧o=0)):=by
 refine zjI w lo hi A n c b h hh hn hN _ ?_ ?_ ?_
 ·rintro a rest o ⟨_,rfl,_⟩ _
  exact ⟨(by show 1≤100000;omega),fun x hx=>by rw [List.mem_singleton.1 hx];omega⟩
 ·intro wr A' n' c' ys hys hraw _ hb
  rw [hraws] at hraw
  have hl:=hys.len
  have e1:=congrArg List.length hraw
  rw [List.length_map] at e1
  have e2:n'=1:=by rw [← hl,e1];rfl
  subst e2
  have one:∀ x∈ys,x.raw=r:=fun x hx=>by
   have h1:x.raw∈ys.map RawP.raw:=List.mem_map_of_mem (f:=RawP.raw) hx
   rw [hraw] at h1
   exact List.mem_singleton.1 h1
  refine (zlK wr _ _ A' 1 c' ys hys (Nat.le_refl _) (by omega) (fun x hx=>?_) (fun x hx=>?_) (hK.below hb)).mono fun e w' hg=>?_
  ·have h1:x.k=15:=(congrArg Rw.k (one x hx)).trans hk
   rw [h1];decide
  ·have h1:x.v=r.v:=congrArg Rw.v (one x hx)
   rw [h1];exact hv
  ·refine zjc.imp (fun a rest o hj=>?_) hg
   obtain ⟨q,⟨hq,_⟩,rfl⟩:=hj
   obtain ⟨r1,r2,rfl⟩:=zpg hq hraw hk hf
   refine ⟨r1,r2,?_⟩
   have hc:cntK 14 ys=0:=by
    unfold cntK
    rw [List.filter_eq_nil_iff.2 (fun x hx=>by
     have h1:x.k=15:=(congrArg Rw.k (one x hx)).trans hk
     rw [h1];decide)]
    rfl
   unfold finO
   rw [hc,if_neg (by omega)]
 ·rintro wr A' n' c' ys _ _ _ _ ⟨a,rest,_,_,h3⟩
  exact absurd h3 (by decide)
end
end Go.Proofs.YtookpplebikfnaaGreatDoor
