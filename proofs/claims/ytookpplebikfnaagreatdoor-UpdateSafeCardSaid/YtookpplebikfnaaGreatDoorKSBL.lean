/-
  What Write of package attr does with attributes, and Few of the statements, in whatever memory. The one condition: the table of kinds holds what its text lays.
  The body of an update that is right: attributes of package update, in whatever memory. The one condition beyond sizes that fit memory: the program's tables hold what their texts lay.
  The body of any update: Bytes of package update, in whatever memory. The one condition beyond sizes that fit memory: the program's tables hold what their texts lay.
-/
import Derived.Test.YtookpplebikfnaaGreatDoorKSBF
set_option linter.unusedVariables false
set_option linter.unusedSimpArgs false
namespace Go.Proofs.YtookpplebikfnaaGreatDoor
section
open Go.RowKit
def zf0 (a:Ats) (k:Nat):List Item :=
 match k with
 | 0=>[.origin a.o]
 | 1=>[.path a.path]
 | 2=>if 0≤a.med then [.med a.med] else []
 | 3=>if 0≤a.pref then [.pref a.pref] else []
 | 4=>if 0<a.os then [.orig a.os a.ob] else []
 | 5=>if a.cl=[] then [] else [.clus a.cl]
 | 6=>if a.ex=[] then [] else [.exts a.ex]
 | 7=>tunI a.tn
 | _=>[]
def zky (a:Ats):Nat→List Item
 | 0=>[]
 | k+1=>zky a k++zf0 a k
theorem zmR (a:Ats):zky a 8=zmS a:=by
 show ((((((([]++zf0 a 0)++zf0 a 1)++zf0 a 2)++zf0 a 3)++zf0 a 4)++zf0 a 5)++zf0 a 6)++zf0 a 7=_
 unfold zmS zf0
 simp only [List.nil_append,List.append_assoc]
 rfl
def zgi (a:Ats) (k:Nat):List Rw:=(zky a k).map Item.rw
theorem zgT (a:Ats):zgi a 8=zfK a:=by unfold zgi zfK;rw [zmR]
theorem zfV (a:Ats) (k:Nat):zgi a (k+1)=zgi a k++(zf0 a k).map Item.rw:=by unfold zgi;show ((zky a k++zf0 a k).map Item.rw)=_;rw [List.map_append]
theorem zrv (a:Ats) (k:Nat):(zf0 a k).length≤1:=by
 unfold zf0
 split
 all_goals first | exact Nat.le_refl _ | (split <;> simp) | (unfold tunI;split <;> simp) | simp
theorem zfp (a:Ats):∀ k,(zgi a k).length≤k
 | 0=>Nat.le_refl _
 | k+1=>by
  have h1:=zfp a k
  have h2:=zrv a k
  rw [zfV,List.length_append,List.length_map]
  omega
def knK (k:Nat):Int:=match k with | 0=>1 | 1=>2 | 2=>4 | 3=>5 | 4=>9 | 5=>10 | 6=>16 | _=>22
def knF (k:Nat):Int:=match k with | 0=>64 | 1=>64 | 2=>128 | 3=>64 | 4=>128 | 5=>128 | 6=>192 | _=>192
theorem ztH (w:World) {k:Nat} (h:k<8):(Instr.index 132 (.agg #[.int .i64 1,.int .i64 64,.int .i64 2,.int .i64 64,.int .i64 4,.int .i64 128,.int .i64 5,.int .i64 64,.int .i64 9,.int .i64 128,.int .i64 10,.int .i64 128,.int .i64 16,.int .i64 192,.int .i64 22,.int .i64 192]) (.int .i64 (k:Int))).run Tryz.prog w = .ok (.agg #[.int .i64 (knK k),.int .i64 (knF k)]) w:=by
 match k,h with
 | 0,_=>exact zcy w
 | 1,_=>exact zcY w
 | 2,_=>exact zdj w
 | 3,_=>exact zdC w
 | 4,_=>exact zea w
 | 5,_=>exact ze0 w
 | 6,_=>exact zgr w
 | 7,_=>exact ziE w
theorem val_kn (p:AtP) (hr:zsr p.ats) (k:Nat) (hk:k<8):∃ (b:List UInt8) (there:Bool),(zf0 p.ats k).map Item.rw=(if there then [⟨knF k,knK k,b⟩] else []) ∧
  ∀ (x:World) (lo hi:Nat),zar x lo hi p→hi≤x.heap.size→Calls Tryz.prog 74 #[.agg (attC p),.int .i64 (knK k)] x (zaM x b there):=by
 have hpth:(p.path.length≤16)∧p.path.all okS=true:=by
  have h1:=hr.path
  unfold znT at h1
  rw [Bool.and_eq_true,decide_eq_true_eq] at h1
  obtain ⟨h2,h3⟩:=h1
  have h4:p.ats.path=p.path.map SgP.sg:=rfl
  rw [h4,List.length_map] at h2
  rw [h4,List.all_map] at h3
  exact ⟨h2,h3⟩
 have htun:(p.tl.length≤1)∧p.tl.all okT=true:=by
  obtain ⟨h2,h3⟩:=hr.tn
  have h4:p.ats.tn=p.tl.map TnP.tun:=rfl
  rw [h4,List.length_map] at h2
  rw [h4,List.all_map] at h3
  exact ⟨h2,h3⟩
 match k,hk with
 | 0,_ =>
  obtain ⟨O,hO⟩:∃ O:Nat,p.o=O:=⟨p.o.toNat,by have:=hr.o.1;have h:p.ats.o=p.o:=rfl;omega⟩
  have hO2:O≤255:=by have:=hr.o.2;have h:p.ats.o=p.o:=rfl;omega
  refine ⟨[UInt8.ofNat O],true,?_,fun x lo hi h hh=>zpY x lo hi p h hh O hO hO2⟩
  show [Item.rw (.origin p.o)]=_
  rw [hO]
  show [(⟨64,1,[UInt8.ofNat ((O:Nat):Int).toNat]⟩:Rw)]=_
  rw [Int.toNat_natCast]
  rfl
 | 1,_=>exact ⟨zlt (p.path.map SgP.sg),true,rfl,fun x lo hi h hh=>zuR x lo hi p h hh hpth.1 hpth.2⟩
 | 2,_ =>
  by_cases hm:0≤p.med
  ·exact ⟨be 4 p.med.toNat,true,by show (if 0≤p.med then [Item.med p.med] else []).map Item.rw=_;rw [if_pos hm];rfl,fun x lo hi h hh=>zpT x lo hi p h hh ⟨hm,hr.med.2⟩⟩
  ·exact ⟨be 4 p.med.toNat,false,by show (if 0≤p.med then [Item.med p.med] else []).map Item.rw=_;rw [if_neg hm];rfl,fun x lo hi h hh=>zsy x lo hi p h hh (by omega)⟩
 | 3,_ =>
  by_cases hm:0≤p.pref
  ·exact ⟨be 4 p.pref.toNat,true,by show (if 0≤p.pref then [Item.pref p.pref] else []).map Item.rw=_;rw [if_pos hm];rfl,fun x lo hi h hh=>zpS x lo hi p h hh ⟨hm,hr.pref.2⟩⟩
  ·exact ⟨be 4 p.pref.toNat,false,by show (if 0≤p.pref then [Item.pref p.pref] else []).map Item.rw=_;rw [if_neg hm];rfl,fun x lo hi h hh=>zsx x lo hi p h hh (by omega)⟩
 | 4,_ =>
  rcases hr.orig with hz | hf
  ·have hz1:p.os=0:=hz.1
   exact ⟨zav p.os p.ob,false,by show (if 0<p.os then [Item.orig p.os p.ob] else []).map Item.rw=_;rw [if_neg (by omega)];rfl,fun x lo hi h hh=>zni x lo hi p h hh hz⟩
  ·have hf4:p.os=4:=by have h1:four p.os p.ob=true:=hf;unfold four at h1;rw [Bool.and_eq_true,decide_eq_true_eq] at h1;exact h1.1
   exact ⟨zav p.os p.ob,true,by show (if 0<p.os then [Item.orig p.os p.ob] else []).map Item.rw=_;rw [if_pos (by omega)];rfl,fun x lo hi h hh=>zpR x lo hi p h hh hf⟩
 | 5,_ =>
  obtain ⟨h1,h2⟩:=hr.cl
  have e:∀ l:List (Int × List UInt8),clB l=catE fD l:=fun l=>(zpA l).symm
  by_cases hc:p.cl=[]
  ·exact ⟨clB p.cl,false,by show (if p.cl=[] then [] else [Item.clus p.cl]).map Item.rw=_;rw [if_pos hc];rfl,fun x lo hi h hh=>zpW x lo hi p h hh h1 h2 (by rw [hc];rfl)⟩
  ·refine ⟨clB p.cl,true,by show (if p.cl=[] then [] else [Item.clus p.cl]).map Item.rw=_;rw [if_neg hc];rfl,fun x lo hi h hh=>zsB x lo hi p h hh h1 h2 ?_⟩
   have hl:(clB p.cl).length=4*p.cl.length:=zr0 (fun y hy=>h.cl.sz y hy) h2
   have:0<p.cl.length:=List.length_pos_iff.2 hc
   omega
 | 6,_ =>
  by_cases hc:p.ex=[]
  ·exact ⟨zbe p.ex,false,by show (if p.ex=[] then [] else [Item.exts p.ex]).map Item.rw=_;rw [if_pos hc];rfl,fun x lo hi h hh=>zkX x lo hi p h hh (by rw [hc];rfl)⟩
  ·exact ⟨zbe p.ex,true,by show (if p.ex=[] then [] else [Item.exts p.ex]).map Item.rw=_;rw [if_neg hc];rfl,fun x lo hi h hh=>zsA x lo hi p h hh hr.ex (List.length_pos_iff.2 hc)⟩
 | 7,_ =>
  cases ht:p.tl with
  | nil =>
   refine ⟨catE fT p.tl,false,?_,fun x lo hi h hh=>zpU x lo hi p h hh htun.1 htun.2 (by rw [ht];rfl)⟩
   show (tunI (p.tl.map TnP.tun)).map Item.rw=_
   rw [ht]
   rfl
  | cons t r =>
   have hr0:r=[]:=by
    have h1:=htun.1
    rw [ht] at h1
    exact List.eq_nil_of_length_eq_zero (by have h2:r.length+1≤1:=h1;omega)
   subst hr0
   refine ⟨catE fT p.tl,true,?_,fun x lo hi h hh=>znj x lo hi p h hh htun.1 htun.2 ?_⟩
   ·show (tunI (p.tl.map TnP.tun)).map Item.rw=_
    rw [ht]
    show [(⟨192,22,zeD t.tun⟩:Rw)]=[⟨192,22,fT t++[]⟩]
    rw [List.append_nil]
    rfl
   ·rw [ht]
    show 0<(fT t++[]).length
    unfold fT zeD zmW
    simp
theorem AtS.grown {w x y:World} {lo hi:Nat} {p:AtP} (h:AtS w x lo hi p) {row:Option Nat} (hg:x.grownBy y row) (hr:∀ g,row=some g→w.heap.size<g):AtS w y lo hi p :=
 ⟨h.b.grown hg (fun e=>by have:=hr _ e.symm;omega),h.at_.grown hg h.hx (fun g e=>.inr (by have:=hr g e;have:=h.hh;omega)),h.bl.grown hg h.bl.size (fun g e=>by have:=hr g e;omega),h.hh⟩
def zsn (w:World) (a:Ats) (e:Ending) (w':World):Prop :=
 ∃ v xs,e = .returned (.tuple #[v,.int .i64 0])∧zaw w' w.heap.size 89 5 v xs∧xs.map RawP.raw=zfK a∧Below w.heap.size w w'
set_option maxRecDepth 20000 in
set_option maxHeartbeats 6000000 in
theorem zpK (w:World) (lo hi:Nat) (p:AtP) (h:zar w lo hi p) (hh:hi≤w.heap.size) (hkn:zcv w) (hr:zbd p.ats=true) :
  Calls Tryz.prog 41 #[.agg (attC p)] w (zsn w p.ats):=by
 have hra:=(zmz p.ats).1 hr
 have HVAL:=hide (val_kn p hra)
 have S0:=hide (AtS.start h hh)
 have HOB:=h.ob
 have RN0:=hide (zak (l:=attL p) S0.out.b)
 have KN0:=hide (hkn.below ((Below.refl w.heap.size w).alloc (Nat.le_refl _) (.cells (attC p) 30)))
 have HR:=hide hr
 have hsz0:(w.alloc (.cells (attC p) 30)).heap.size=w.heap.size+1:=by simp
 clear h hkn hr hra
 go_enter Tryz.func41,Tryz.ntmps41
 go_wp2_with ((with_reducible refine zaz ?_ (.tmp 1) rfl w.heap.size 0 rfl RN0.out HOB ?_);· rfl)
 generalize w.alloc (.cells (attC p) 30)=w0 at *
 refine (zcH w0 lo hi p S0.out.at_ S0.out.hx).mono ?_
 rw [HR.out]
 rintro e w1 ⟨rfl,hb1⟩
 have S1:=hide (S0.out.on hb1)
 have KN1:=hide (KN0.out.below hb1)
 have hz1:=hb1.size
 clear hb1 S0 RN0 KN0
 obtain ⟨base,hbase⟩:∃ base,w1.heap.size=base:=⟨_,rfl⟩
 have hbw:w.heap.size<base:=by omega
 have HBS:=hide hbase
 clear hbase
 go_wp2_with (with_reducible refine zba rfl (.global 0) rfl rfl KN1.out ?_)
 go_loopw [4,13] (fun v i wr=>∃ (k q c:Nat) (B:Option Addr) (xs:List RawP),k≤8∧v = .slice B q c∧i = .int .i64 k∧xs.length=q∧zaw wr base 89 5 (.slice B q c) xs∧xs.map RawP.raw=zgi p.ats k∧AtS w wr lo hi p∧base≤wr.heap.size) (fun _ i _=>8-(intOf i).toNat)
 case atStart=>exact ⟨0,0,0,none,[],by decide,rfl,rfl,rfl,zaw.nil _ _ _ _,rfl,S1.out,by rw [HBS.out];exact Nat.le_refl _⟩
 case round =>
  obtain ⟨k,q,c,B,xs,hk,rfl,rfl,hql,hown,hraws,hst,hbz⟩:=hrel
  have HO:=hide hown
  have HRW:=hide hraws
  have ST:=hide hst
  have HQL:=hide hql
  have hq8:q≤8:=by have h1:=zfp p.ats k;rw [← hraws,List.length_map,hql] at h1;omega
  clear hown hraws hst hql
  by_cases hlt:k<8
  ·have hkl:((k:Nat):Int)<8:=by omega
   have qk:=fun (x:World)=>ztH x hlt
   obtain ⟨b,there,hit,hval⟩:=HVAL.out k hlt
   obtain ⟨K,hK⟩:∃ K,knK k=K:=⟨_,rfl⟩
   obtain ⟨F,hF⟩:∃ F,knF k=F:=⟨_,rfl⟩
   rw [hK,hF] at qk hit
   rw [hK] at hval
   have HIT:=hide hit
   have HVL:=hide hval
   clear hit hval hK hF
   have RNr:=hide (zak (l:=attL p) ST.out.b)
   have B9:Hid (Below wr.heap.size wr (wr.alloc (.cells #[.int .i64 K,.int .i64 F] 131))):=hide ((Below.refl _ _).alloc (Nat.le_refl _) _)
   have c90:(wr.alloc (.cells #[.int .i64 K,.int .i64 F] 131)).cell? ⟨wr.heap.size,0,none⟩=some (.int .i64 K):=(Blk.new wr _ _).cell 0
   have c91:(wr.alloc (.cells #[.int .i64 K,.int .i64 F] 131)).cell? ⟨wr.heap.size,1,none⟩=some (.int .i64 F):=(Blk.new wr _ _).cell 1
   have RN9:=hide (zak (l:=attL p) (ST.out.b.over B9.out))
   go_wp2_with ((with_reducible refine zaz ?_ (.tmp 1) rfl w.heap.size 0 rfl RN9.out HOB ?_);· rfl)
   have S9:=hide (ST.out.on B9.out)
   have HO9:=hide (HO.out.over B9.out)
   have KB9:=hide (Blk.new wr 131 #[.int .i64 K,.int .i64 F])
   have hz9:=B9.out.size
   have HNB:Hid (∀ j,zfb (.slice B q c) xs j→j<wr.heap.size):=hide (fun j hj=>(HO.out.lt j hj).2)
   clear RNr RN9 B9 ST HO c90 c91 qk
   generalize (wr.alloc (.cells #[.int .i64 K,.int .i64 F] 131))=w9 at *
   refine (HVL.out w9 lo hi S9.out.at_ S9.out.hx).mono ?_
   rintro e w2 ⟨v2,rfl,ho2,hb2⟩
   have S2:=hide (S9.out.on hb2)
   have HO2:=hide (HO9.out.over hb2)
   have KB2:=hide (KB9.out.over hb2)
   have hz2:=hb2.size
   clear hb2 S9 HO9 KB9
   cases there
   ·have hnx:xs.map RawP.raw=zgi p.ats (k+1):=by rw [zfV,HIT.out,HRW.out];simp
    have HNX:=hide hnx
    clear hnx ho2
    go_wp2_with fail
    go_roundw
    case rel=>exact ⟨k+1,q,c,B,xs,by omega,rfl,by go_num,HQL.out,HO2.out,HNX.out,S2.out,by omega⟩
    case measure=>simp [intOf];omega
   ·have OX2:=hide (ho2 rfl)
    obtain ⟨A2,c2,rfl,_,_⟩:=zad (ho2 rfl)
    have HW4:Hid (Below w2.heap.size w2 (w2.alloc (.cells (rawC ⟨F,K,A2,b.length,c2,b⟩) 89))):=hide ((Below.refl _ _).alloc (Nat.le_refl _) _)
    obtain ⟨v5,w5,hrun,ho5,hg5,hat5⟩:=zgk (w2.alloc (.cells (rawC ⟨F,K,A2,b.length,c2,b⟩) 89)) base 59 (.slice B q c) xs (HO2.out.over HW4.out) ⟨F,K,A2,b.length,c2,b⟩ (zcp (za8 OX2.out HW4.out) (by omega)) (fun j hj hbk=>by have h1:=HNB.out j hbk;have h2:=(OX2.out.lt j hj).1;omega) _ _ _ 1 (AtG.one (Blk.new w2 89 (rawC ⟨F,K,A2,b.length,c2,b⟩))) (by rw [HQL.out];omega) (Nat.le_trans (by omega) HW4.out.size)
    have HRUN:=hide hrun
    have HO5:=hide ho5
    have S5:=hide ((S2.out.on HW4.out).grown hg5 (fun g e=>by have:=(HO2.out.lt g (.inl e)).1;omega))
    have hz5:=Nat.le_trans HW4.out.size hg5.size
    have hnx:(xs++[(⟨F,K,A2,b.length,c2,b⟩:RawP)]).map RawP.raw=zgi p.ats (k+1):=by rw [zfV,HIT.out,← HRW.out,List.map_append];rfl
    have HNX:=hide hnx
    have k0:w2.cell? ⟨wr.heap.size,0,none⟩=some (.int .i64 K):=KB2.out.cell 0
    have k1:w2.cell? ⟨wr.heap.size,1,none⟩=some (.int .i64 F):=KB2.out.cell 1
    clear hrun ho5 hg5 hat5 hnx ho2 HO2 OX2 S2 HNB KB2
    go_wp2_with (first
     | (with_reducible refine zbW rfl (.tmp 30) rfl ⟨F,K,A2,b.length,c2,b⟩ rfl ?_)
     | (at_builtin;refine za3 rfl (.tmp 24) (.tmp 31) 59 59 59 rfl rfl rfl rfl HRUN.out ?_;refine Hid.out ?_))
    refine hide ?_
    obtain ⟨B5,c5,rfl,_,_⟩:=HO5.out.shape
    go_wp2
    go_roundw
    case rel=>exact ⟨k+1,q+1,c5,B5,_,by omega,by rw [List.length_append,HQL.out];rfl,by go_num,by rw [List.length_append,HQL.out];rfl,by have:=HO5.out;rw [List.length_append,HQL.out] at this;exact this,HNX.out,S5.out,by omega⟩
    case measure=>simp [intOf];omega
  ·obtain rfl:k=8:=by omega
   go_wp2
   go_ret2
   exact ⟨.slice B q c,xs,rfl,HO.out.more (by omega),by rw [HRW.out,zgT],ST.out.bl⟩
end
section
open Go.RowKit
abbrev zTb:Array Value:=#[.int .i64 0,.int .i64 0,.int .i64 0,.int .u8 0,.int .u8 0,.int .u8 0,.int .u8 0,.int .u8 0,.int .u8 0,.int .u8 0,.int .u8 0,.int .u8 0,.int .u8 0,.int .u8 0,.int .u8 0,.int .u8 0,.int .u8 0,.int .u8 0,.int .u8 0,.slice none 0 0,.slice none 0 0]
def rawRe (t:Tb):Rw:=⟨128,14,valT true t⟩
def zvA (t:Tb):Rw:=⟨128,15,valT false t⟩
def preR (a:Ats) (l:List Tb) (k:Nat):List Rw:=if k=0 then [] else zfK a++(l.take k).map rawRe
def zcK (u:Up):List Rw:=preR u.at_ u.re u.re.length++u.un.map zvA
structure UkS (w y:World) (lo hi:Nat) (u:UpP):Prop where
 s:UpS w y lo hi u
 n:zaL y
 k:zcv y
section
variable {w y z:World} {lo hi:Nat} {u:UpP}
theorem UkS.on (h:UkS w y lo hi u) (hb:Below y.heap.size y z):UkS w z lo hi u:=⟨h.s.on hb,h.n.below hb,h.k.below hb⟩
theorem zaL.grown {q:Nat} (h:zaL w) (h0:zaL y) (hq:w.heap.size<q) (hb:Below w.heap.size w z):zaL z:=h.below hb
end
structure AtW (w y:World) (base lo hi:Nat) (u:UpP) (v:Value) (xs:List RawP) (rs:List Rw):Prop where
 o:zaw y base 89 5 v xs
 r:xs.map RawP.raw=rs
 s:UpS w y lo hi u
 b:base≤y.heap.size
 n:zaL w
 k:zcv w
section
variable {w y z:World} {base lo hi:Nat} {u:UpP} {v:Value} {xs:List RawP} {rs:List Rw}
theorem AtW.on (h:AtW w y base lo hi u v xs rs) (hb:Below y.heap.size y z):AtW w z base lo hi u v xs rs :=
 ⟨h.o.over hb,h.r,h.s.on hb,Nat.le_trans h.b hb.size,h.n,h.k⟩
theorem AtW.ny (h:AtW w y base lo hi u v xs rs):zaL y:=h.n.below h.s.bl
theorem AtW.ky (h:AtW w y base lo hi u v xs rs):zcv y:=h.k.below h.s.bl
theorem AtW.push (h:AtW w y base lo hi u v xs rs) (hbw:w.heap.size<base) (hq:xs.length≤1000) (F K:Int) (A:Option Addr) (c:Nat) (b:List UInt8) (ho:y.ownsRow base 5 1 (.slice A b.length c) b.length (bvs b)) (hf:∀ g,(Value.slice A b.length c).ownBlock=some g→¬ zfb v xs g) :
  ∃ v' w' xs',(Builtin.append_ #[59,59] 59 #[v,.slice (some ⟨y.heap.size,0,none⟩) 1 1]).run Tryz.prog (y.alloc (.cells (rawC ⟨F,K,A,b.length,c,b⟩) 89)) = .ok v' w'∧AtW w w' base lo hi u v' xs' (rs++[⟨F,K,b⟩])∧xs'.length=xs.length+1∧Below w.heap.size w w':=by
 have HW4:Below y.heap.size y (y.alloc (.cells (rawC ⟨F,K,A,b.length,c,b⟩) 89)):=(Below.refl _ _).alloc (Nat.le_refl _) _
 obtain ⟨v5,w5,hrun,ho5,hg5,hat5⟩:=zgk (y.alloc (.cells (rawC ⟨F,K,A,b.length,c,b⟩) 89)) base 59 v xs (h.o.over HW4) ⟨F,K,A,b.length,c,b⟩ (za8 ho HW4) hf _ _ _ 1 (AtG.one (Blk.new y 89 (rawC ⟨F,K,A,b.length,c,b⟩))) (by omega) (Nat.le_trans h.b HW4.size)
 have hr:∀ k,v.ownBlock=some k→w.heap.size<k:=fun k hk=>by have h1:=(h.o.lt k (.inl hk)).1;omega
 have S5:=(h.s.on HW4).grown hg5 hr
 exact ⟨v5,w5,_,hrun,⟨ho5,by rw [List.map_append,h.r];rfl,S5,Nat.le_trans h.b (Nat.le_trans HW4.size hg5.size),h.n,h.k⟩,by rw [List.length_append];rfl,S5.bl⟩
end
theorem ztp (a:Ats) (l:List Tb) (k:Nat) (h:l.length≤1):(preR a l k).length≤9:=by
 unfold preR
 split
 ·simp
 ·have h1:=zfp a 8
  rw [zgT] at h1
  rw [List.length_append,List.length_map,List.length_take]
  omega
theorem zrM {ok:Tb→Bool} {l:List TbP} (h:fewT ok (l.map TbP.tb)=true):l.length≤1∧∀ x∈l,ok x.tb=true:=by
 unfold fewT at h
 rw [Bool.and_eq_true,List.length_map] at h
 exact ⟨of_decide_eq_true h.1,fun x hx=>List.all_eq_true.1 h.2 _ (List.mem_map.2 ⟨x,hx,rfl⟩)⟩
theorem zmw {u:UpP} (h:zdA u.up=true):zbd u.at_.ats=true∧(u.re.length≤1∧∀ x∈u.re,zaY true x.tb=true)∧(u.ne.length≤1∧∀ x∈u.ne,zaY false x.tb=true):=by
 unfold zdA at h
 simp only [Bool.and_eq_true] at h
 obtain ⟨h1,h2,h3,_⟩:=h
 have g2:=zrM (l:=u.re) h2
 have g3:=zrM (l:=u.ne) h3
 refine ⟨h1,⟨g2.1,fun x hx=>?_⟩,g3⟩
 have h4:=g2.2 x hx
 unfold zcn at h4
 rw [Bool.and_eq_true] at h4
 exact h4.1
def unR (P:List Rw) (l:List Tb) (k:Nat):List Rw:=P++(l.take k).map zvA
theorem zj1 (P:List Rw) (l:List Tb):unR P l 0=P:=by unfold unR;simp
theorem zuU (P:List Rw) {l:List TbP} {x:TbP} (h:l[0]?=some x):unR P (l.map TbP.tb) 1=P++[⟨128,15,valT false x.tb⟩]:=by
 unfold unR
 cases l with
 | nil=>simp at h
 | cons y r =>
  have e:y=x:=by simpa using h
  subst e
  rfl
theorem zuV {P:List Rw} {l:List TbP} {n:Nat} (h:l.length=n):unR P (l.map TbP.tb) n=P++(l.map TbP.tb).map zvA:=by
 unfold unR
 rw [List.take_of_length_le (by rw [List.length_map];omega)]
theorem zq1 (a:Ats) (l:List Tb):(preR a l 0).length≤20:=by unfold preR;simp
theorem zto (a:Ats) {l:List TbP} {x:TbP} (h:l[0]?=some x):preR a (l.map TbP.tb) 1=zfK a++[⟨128,14,valT true x.tb⟩]:=by
 unfold preR
 rw [if_neg (by decide)]
 cases l with
 | nil=>simp at h
 | cons y r =>
  have e:y=x:=by simpa using h
  subst e
  rfl
theorem ztj {xs:List RawP} {a:Ats} (h:xs.map RawP.raw=zfK a):xs.length≤8:=by
 have h1:=congrArg List.length h
 rw [List.length_map] at h1
 have h2:=zfp a 8
 rw [zgT] at h2
 omega
set_option maxRecDepth 20000 in
set_option maxHeartbeats 4000000 in
theorem zjq (w:World) (lo hi:Nat) (u:UpP) (h:UpAt w lo hi u) (hh:hi≤w.heap.size) (hfit:FitU u) (hN:zaL w) (hK:zcv w) (hr:zdA u.up=true) :
  Calls Tryz.prog 21 #[.agg (updC u)] w fun e w'=>∃ v xs,e = .returned v∧zaw w' w.heap.size 89 5 v xs∧xs.map RawP.raw=zcK u.up∧Below w.heap.size w w':=by
 obtain ⟨r1,r2,r3⟩:=zmw hr
 obtain ⟨P0,rA,rn,rc,re,nA,nn,nc,ne⟩:=u
 have S0:=hide (UpS.start h hh)
 have HOB:P0.ob.length=16:=h.ob
 have HFT:=hide hfit
 have HNM:=hide hN
 have HKN:=hide hK
 have R1:=hide r1
 have R2:=hide r2
 have R3:=hide r3
 have HLR:Hid (re.length=rn):=hide h.re.len
 have HLN:Hid (ne.length=nn):=hide h.ne.len
 have hrn:rn≤1:=by rw [← HLR.out];exact r2.1
 have hnn:nn≤1:=by rw [← HLN.out];exact r3.1
 have c24:=S0.out.c24
 obtain ⟨base,hbase⟩:∃ base,(w.alloc (.cells (updC ⟨P0,rA,rn,rc,re,nA,nn,nc,ne⟩) 33)).heap.size=base:=⟨_,rfl⟩
 have hbw:w.heap.size<base:=by rw [← hbase];simp
 have HBS:=hide hbase
 clear h hfit hN hK hr r1 r2 r3 hbase
 go_enter Tryz.func21,Tryz.ntmps21
 go_wp2_with fail
 go_loopw [3,11] (fun v i wr=>∃ (k q c:Nat) (B:Option Addr) (xs:List RawP),k≤rn∧v = .slice B q c∧i = .int .i64 k∧xs.length=q∧AtW w wr base lo hi (⟨P0,rA,rn,rc,re,nA,nn,nc,ne⟩:UpP) (.slice B q c) xs (preR P0.ats (re.map TbP.tb) k)) (fun _ i _=>rn-(intOf i).toNat)
 case atStart=>exact ⟨0,0,0,none,[],Nat.zero_le _,rfl,rfl,rfl,⟨zaw.nil _ _ _ _,rfl,S0.out,by rw [HBS.out];exact Nat.le_refl _,HNM.out,HKN.out⟩⟩
 case round =>
  obtain ⟨k,q,c,B,xs,hk,rfl,rfl,hql,hat⟩:=hrel
  have HA:=hide hat
  have HQL:=hide hql
  clear hat hql
  by_cases hlt:k<rn
  ·obtain rfl:k=0:=by omega
   have hkl:((0:Nat):Int)<(rn:Int):=by omega
   obtain ⟨b,o,x,rfl,hb1,hb2,hx,hat⟩:=HA.out.s.at_.re.row.at_ (sz:=21) (fun y hy=>ziY (HA.out.s.at_.re.sz y hy)) hlt
   have hmem:=List.mem_of_getElem? hx
   have HM:=hide (HA.out.s.at_.re.mem x hmem)
   have HW:=hide (HA.out.s.at_.re.sz x hmem)
   have XN:=hide (zdp HW.out)
   have XF:=hide (HFT.out.re x hmem)
   have XR:=hide (R2.out.2 x hmem)
   have HX:=hide hx
   rw [Nat.zero_mul,Nat.add_zero] at hat
   have HAT:=hide hat
   have NEW:=hide (Blk.new wr 53 zTb)
   have HQ9:=hide (show q≤20 by have h1:=HA.out.r;have h2:=congrArg List.length h1;rw [List.length_map,HQL.out] at h2;rw [h2];exact zq1 _ _)
   clear hx hat hmem
   go_wp2_with (first
    | ((with_reducible refine zap ?_ (.tmp 13) rfl b o rfl x HAT.out XN.out ?_);· rfl)
    | (refine zch rfl (.tmp 5) (.tmp 14) rfl wr.heap.size rfl x rfl XN.out NEW.out rfl ?_;intro w2 hb2 hg2;have B2:=hide hb2;have W2:Hid (Below wr.heap.size wr w2):=hide (((Below.refl _ _).alloc (Nat.le_refl _) _).grown hg2 (by simp) (by simp));clear hb2 hg2;refine Hid.out ?_))
   refine hide ?_
   have A2:=hide (HA.out.on W2.out)
   have M2:=hide (mkTb _ _ _ _ _ (fun p _ hp=>W2.out.cell (by have:=HA.out.s.here;omega)) HM.out)
   clear NEW HA HM HAT
   have RA:=hide A2.out.s.ratt
   go_wp2_with ((with_reducible refine zaz ?_ (.tmp 16) rfl w.heap.size 0 rfl RA.out HOB ?_);· rfl)
   refine (zpK w2 lo hi P0 A2.out.s.at_.at_ A2.out.s.here A2.out.ky R1.out).mono ?_
   rintro e w3 ⟨v3,xs3,rfl,ho3,hr3,hb3⟩
   have A3:Hid (AtW w w3 base lo hi (⟨P0,some ⟨b,o,none⟩,rn,rc,re,nA,nn,nc,ne⟩:UpP) v3 xs3 (zfK P0.ats)):=hide ⟨ho3.more A2.out.b,hr3,A2.out.s.on hb3,Nat.le_trans A2.out.b hb3.size,HNM.out,HKN.out⟩
   have L3:=hide (ztj hr3)
   have M3:=hide (mkTb _ _ _ _ _ (fun p _ hp=>hb3.cell (by have:=A2.out.s.here;omega)) M2.out)
   have B3:=hide (B2.out.over hb3)
   obtain ⟨B9,c3,rfl,_,_⟩:=A3.out.o.shape
   clear ho3 hr3 hb3 A2 M2 B2 RA
   have RB:=hide (zak (l:=tbL x) B3.out)
   go_wp2_with ((with_reducible refine zap ?_ (.tmp 5) rfl wr.heap.size 0 rfl x RB.out XN.out ?_);· rfl)
   refine (zej _ lo hi x true M3.out HW.out A3.out.s.here XF.out A3.out.ny XR.out).mono ?_
   rintro e w5 ⟨v5,rfl,ho5,hb5⟩
   obtain ⟨A9,c9,rfl,_,_⟩:=zad ho5
   have A5:=hide (A3.out.on hb5)
   obtain ⟨v7,w7,xs7,hrun,hat7,hl7,hb7⟩:=A5.out.push hbw (by have:=L3.out;omega) 128 14 A9 c9 (valT true x.tb) (zau ho5 A3.out.b) (fun g hg hbk=>by have h1:=(A3.out.o.lt g hbk).2;have h2:=(ho5.lt g hg).1;omega)
   have HRUN:=hide hrun
   have A7:=hide hat7
   have L7:=hide hl7
   clear hrun hat7 hl7 hb7 ho5 hb5 A3 A5 M3 B3 RB
   go_wp2_with (first
    | (with_reducible refine zbW rfl (.tmp 24) rfl ⟨128,14,A9,(valT true x.tb).length,c9,valT true x.tb⟩ rfl ?_)
    | (at_builtin;refine za3 rfl (.tmp 21) (.tmp 25) 59 59 59 rfl rfl rfl rfl HRUN.out ?_;refine Hid.out ?_))
   refine hide ?_
   obtain ⟨B7,c7,rfl,_,_⟩:=A7.out.o.shape
   go_wp2
   go_roundw
   case rel=>exact ⟨1,xs7.length,c7,B7,xs7,hlt,rfl,by go_num,rfl,by have:=A7.out;rw [zto _ HX.out];exact this⟩
   case measure=>simp [intOf];omega
  ·obtain rfl:k=rn:=by omega
   have hkl:¬ ((k:Nat):Int)<(k:Int):=by omega
   obtain ⟨P1,hP1⟩:∃ P1,preR P0.ats (re.map TbP.tb) k=P1:=⟨_,rfl⟩
   have HP1:=hide hP1
   have PRL:Hid ((unR P1 (ne.map TbP.tb) 0).length≤20):=hide (by rw [zj1,← hP1];have:=ztp P0.ats (re.map TbP.tb) k (by rw [List.length_map];exact R2.out.1);omega)
   have k25:=HA.out.s.c25
   clear hP1
   go_wp2_with fail
   go_loopw [3,31] (fun v i wr=>∃ (j q c:Nat) (B:Option Addr) (xs:List RawP),j≤nn∧v = .slice B q c∧i = .int .i64 j∧xs.length=q∧AtW w wr base lo hi (⟨P0,rA,k,rc,re,nA,nn,nc,ne⟩:UpP) (.slice B q c) xs (unR P1 (ne.map TbP.tb) j)) (fun _ i _=>nn-(intOf i).toNat)
   case atStart=>exact ⟨0,q,c,B,xs,Nat.zero_le _,rfl,rfl,HQL.out,by have:=HA.out;rw [HP1.out] at this;rw [zj1];exact this⟩
   case round =>
    obtain ⟨j,q,c,B,xs,hj,rfl,rfl,hql,hat⟩:=hrel
    have HA:=hide hat
    have HQL:=hide hql
    clear hat hql
    by_cases hlt:j<nn
    ·obtain rfl:j=0:=by omega
     have hkl:((0:Nat):Int)<(nn:Int):=by omega
     obtain ⟨b,o,x,rfl,hb1,hb2,hx,hat⟩:=HA.out.s.at_.ne.row.at_ (sz:=21) (fun y hy=>ziY (HA.out.s.at_.ne.sz y hy)) hlt
     have hmem:=List.mem_of_getElem? hx
     have HM:=hide (HA.out.s.at_.ne.mem x hmem)
     have HW:=hide (HA.out.s.at_.ne.sz x hmem)
     have XN:=hide (zdp HW.out)
     have XF:=hide (HFT.out.ne x hmem)
     have XR:=hide (R3.out.2 x hmem)
     have HX:=hide hx
     rw [Nat.zero_mul,Nat.add_zero] at hat
     have HAT:=hide hat
     have NEW:=hide (Blk.new wr 53 zTb)
     have HQ9:=hide (show q≤20 by have h1:=HA.out.r;have h2:=congrArg List.length h1;rw [List.length_map,HQL.out] at h2;rw [h2];exact PRL.out)
     clear hx hat hmem
     go_wp2_with (first
      | ((with_reducible refine zap ?_ (.tmp 33) rfl b o rfl x HAT.out XN.out ?_);· rfl)
      | (refine zch rfl (.tmp 7) (.tmp 34) rfl wr.heap.size rfl x rfl XN.out NEW.out rfl ?_;intro w2 hb2 hg2;have B2:=hide hb2;have W2:Hid (Below wr.heap.size wr w2):=hide (((Below.refl _ _).alloc (Nat.le_refl _) _).grown hg2 (by simp) (by simp));clear hb2 hg2;refine Hid.out ?_))
     refine hide ?_
     have A2:=hide (HA.out.on W2.out)
     have M2:=hide (mkTb _ _ _ _ _ (fun p _ hp=>W2.out.cell (by have:=HA.out.s.here;omega)) HM.out)
     clear NEW HA HM HAT
     have A3:=hide A2.out
     have M3:=hide M2.out
     have B3:=hide B2.out
     clear A2 M2 B2
     have RB:=hide (zak (l:=tbL x) B3.out)
     go_wp2_with ((with_reducible refine zap ?_ (.tmp 7) rfl wr.heap.size 0 rfl x RB.out XN.out ?_);· rfl)
     refine (zej _ lo hi x false M3.out HW.out A3.out.s.here XF.out A3.out.ny XR.out).mono ?_
     rintro e w5 ⟨v5,rfl,ho5,hb5⟩
     obtain ⟨A9,c9,rfl,_,_⟩:=zad ho5
     have A5:=hide (A3.out.on hb5)
     obtain ⟨v7,w7,xs7,hrun,hat7,hl7,hb7⟩:=A5.out.push hbw (by rw [HQL.out];have:=HQ9.out;omega) 128 15 A9 c9 (valT false x.tb) (zau ho5 A3.out.b) (fun g hg hbk=>by have h1:=(A3.out.o.lt g hbk).2;have h2:=(ho5.lt g hg).1;omega)
     have HRUN:=hide hrun
     have A7:=hide hat7
     have L7:=hide hl7
     clear hrun hat7 hl7 hb7 ho5 hb5 A3 A5 M3 B3 RB
     go_wp2_with (first
      | (with_reducible refine zbW rfl (.tmp 38) rfl ⟨128,15,A9,(valT false x.tb).length,c9,valT false x.tb⟩ rfl ?_)
      | (at_builtin;refine za3 rfl (.tmp 35) (.tmp 39) 59 59 59 rfl rfl rfl rfl HRUN.out ?_;refine Hid.out ?_))
     refine hide ?_
     obtain ⟨B7,c7,rfl,_,_⟩:=A7.out.o.shape
     go_wp2
     go_roundw
     case rel=>exact ⟨1,xs7.length,c7,B7,xs7,hlt,rfl,by go_num,rfl,by have:=A7.out;rw [zuU _ HX.out];rwa [zj1] at this⟩
     case measure=>simp [intOf];omega
    ·obtain rfl:j=nn:=by omega
     have hkl:¬ ((j:Nat):Int)<(j:Int):=by omega
     go_wp2
     go_ret
     exact ⟨_,rfl,xs,HA.out.o.more (by omega),by rw [HA.out.r,← HP1.out,zuV HLN.out];unfold zcK;rw [show (UpP.up ⟨P0,rA,k,rc,re,nA,j,nc,ne⟩).re.length=k by show (re.map TbP.tb).length=k;rw [List.length_map];exact HLR.out];rfl,HA.out.s.bl⟩
end
section
open Go.RowKit
def zuy (u:Up):List UInt8:=0::0::(be 2 (zgY (zcK u)).length++zgY (zcK u))
def zjf (u:Up):Int:=if zdA u=false then 1 else if zhE (zcK u)≠0 then zhE (zcK u) else if 4077<4+(zgY (zcK u)).length then 2 else 0
def zo2 (u:Up):List UInt8:=if zjf u=0 then zuy u else []
def zkV (w:World) (u:Up) (e:Ending) (w':World):Prop :=
 ∃ v,e = .returned (.tuple #[v,.int .i64 (zjf u)])∧w'.ownsRow w.heap.size 5 1 v (zo2 u).length (bvs (zo2 u))∧Below w.heap.size w w'
theorem zmQ (l:List Rw):(zgY l).length≤262400:=by
 unfold zgY
 split
 ·rename_i h
  unfold zhE at h
  split at h
  ·cases h
  ·have h1:=zf1 h
   have h2:l.length*4100≤64*4100:=Nat.mul_le_mul_right _ (by omega)
   omega
 ·simp
theorem znb {w w':World} {u:Up} {k:Int} (h:zjf u=k) (hk:k≠0) (hb:Below w.heap.size w w'):zkV w u (.returned (.tuple #[.slice none 0 0,.int .i64 k])) w':=by
 have e:zo2 u=[]:=if_neg (by rw [h];exact hk)
 refine ⟨.slice none 0 0,by rw [h],?_,hb⟩
 rw [e]
 exact World.ownsRow_nil _ _ _ _
set_option maxRecDepth 20000 in
set_option maxHeartbeats 2000000 in
theorem zp3 (w:World) (lo hi:Nat) (u:UpP) (h:UpAt w lo hi u) (hh:hi≤w.heap.size) (hfit:FitU u) (hN:zaL w) (hK:zcv w) :
  Calls Tryz.prog 9 #[.agg (updC u)] w (zkV w u.up):=by
 obtain ⟨i0,hi0,hz0,hz1,hz2⟩:=info_parts zbz
 have Q0:Hid (UkS w (w.alloc (.cells (updC u) 33)) lo hi u):=hide ⟨UpS.start h hh,hN.below ((Below.refl _ _).alloc (Nat.le_refl _) _),hK.below ((Below.refl _ _).alloc (Nat.le_refl _) _)⟩
 have HOB:=h.ob
 have HFT:=hide hfit
 have RG0:=hide Q0.out.s.rng
 obtain ⟨r,hr⟩:∃ r,zdA u.up=r:=⟨_,rfl⟩
 have HR:=hide hr
 clear h hfit hN hK hr
 go_enter Tryz.func9,Tryz.ntmps9
 go_wp2_with ((with_reducible refine zaW ?_ (.tmp 1) rfl w.heap.size 0 rfl u RG0.out HOB ?_);· rfl)
 refine (zd5 _ lo hi u Q0.out.s.at_ Q0.out.s.here HFT.out Q0.out.n).mono ?_
 rw [HR.out]
 rintro e w1 ⟨rfl,hb1⟩
 have Q1:=hide (Q0.out.on hb1)
 have RG1:=hide Q1.out.s.rng
 clear hb1 Q0 RG0
 cases r
 ·have HE:Hid (zjf u.up=1):=hide (if_pos HR.out)
  go_wp2
  go_ret2
  exact znb HE.out (by decide) Q1.out.s.bl
 ·go_wp2_with ((with_reducible refine zaW ?_ (.tmp 1) rfl w.heap.size 0 rfl u RG1.out HOB ?_);· rfl)
  refine (zjq w1 lo hi u Q1.out.s.at_ Q1.out.s.here HFT.out Q1.out.n Q1.out.k HR.out).mono ?_
  rintro e w2 ⟨v2,xs,rfl,ho2,hr2,hb2⟩
  obtain ⟨A2,c2,rfl,_,_⟩:=ho2.shape
  have S2:=hide (Q1.out.s.on hb2)
  have X2:=hide (ho2.at_ (n:=xs.length) rfl)
  have RW:=hide hr2
  clear ho2 hr2 hb2 Q1 RG1
  go_wp2_with fail
  refine (zsl w2 _ _ A2 xs.length c2 xs X2.out (Nat.le_refl _)).mono ?_
  rw [RW.out]
  rintro e w3 ⟨v3,rfl,ho3,hb3⟩
  have S3:=hide (S2.out.on hb3)
  have HJS:=hide (zmQ (zcK u.up))
  have HE:Hid (zjf u.up=if zhE (zcK u.up)≠0 then zhE (zcK u.up) else if 4077<4+(zgY (zcK u.up)).length then 2 else 0):=hide (if_neg (by rw [HR.out];decide))
  have HBD:Hid (zuy u.up=0::0::(be 2 (zgY (zcK u.up)).length++zgY (zcK u.up))):=hide rfl
  generalize zgY (zcK u.up)=jb at *
  generalize zhE (zcK u.up)=je at *
  obtain ⟨A3,c3,rfl,_,_⟩:=zad ho3
  have T3:=hide (At.own ho3)
  clear ho3 hb3 S2 X2
  by_cases hj:je=0
  ·subst hj
   have HE2:Hid (zjf u.up=if 4077<4+jb.length then 2 else 0):=hide (by rw [HE.out];rfl)
   have hjI:(jb.length:Int)≤262400:=by have:=HJS.out;omega
   by_cases hl:4077<4+jb.length
   ·have hlI:(4077:Int)<4+(jb.length:Int):=by omega
    have HE3:Hid (zjf u.up=2):=hide (by rw [HE2.out,if_pos hl])
    clear HE HE2 hl
    go_wp2
    go_ret2
    exact znb HE3.out (by decide) S3.out.bl
   ·have hlI:¬ (4077:Int)<4+(jb.length:Int):=by omega
    have HE3:Hid (zjf u.up=0):=hide (by rw [HE2.out,if_neg hl])
    have HOUT:Hid (zo2 u.up=0::0::(be 2 jb.length++jb)):=hide (by unfold zo2;rw [if_pos HE3.out,HBD.out])
    have hj2:jb.length<65536:=by omega
    have Z4:=hide (zse w3 2 5)
    have B4:Hid (Below w3.heap.size w3 (w3.alloc (.cells (madeCells #[.int .u8 0] 2) 5))):=hide ((Below.refl _ _).alloc (Nat.le_refl _) _)
    have hz4:(w3.alloc (.cells (madeCells #[.int .u8 0] 2) 5)).heap.size=w3.heap.size+1:=by simp
    clear HE HE2 hl HBD
    go_wp2_with (refine zbV rfl (.const (.int .i64 2)) (.const (.int .i64 2)) 36 rfl 5 i0 Tryz.underlying36 hi0 hz0 hz1 hz2 2 2 _ rfl rfl rfl (Nat.le_refl _) (by decide) ?_)
    refine (zdU _ _ _ (some ⟨w3.heap.size,0,none⟩) 2 2 [0,0] Z4.out (by rw [hz4];exact Nat.le_refl _) (by decide) jb.length 2 (by decide) (by decide) (by omega)).mono ?_
    rintro e w5 ⟨v5,rfl,ho5,hb5⟩
    obtain ⟨A5,c5,rfl,_,_⟩:=zad ho5
    have S5:=hide ((S3.out.on B4.out).on hb5)
    have T5:=hide ((T3.out.below B4.out).below (hb5.mono (by rw [hz4];omega)))
    have HO5:=hide (zau ho5 (Nat.le_trans S3.out.bl.size B4.out.size))
    clear ho5 hb5 S3 Z4 T3 B4 hz4 hlI
    go_wp2_with (at_builtin;go_must (refine zah _ rfl (.tmp 31) (.tmp 32) 36 rfl w.heap.size 5 i0 Tryz.underlying36 hi0 hz0 hz1 hz2 _ (2+2) ([0,0]++be 2 jb.length) rfl HO5.out _ _ A3 jb.length c3 jb rfl T5.out (by omega) S5.out.bl.size ?_);intro v6 w6 hown6 hg6 hat6;have HO6:=hide hown6;have HG6:=hide hg6;clear hown6 hg6 hat6)
    go_ret2
    refine ⟨v6,by rw [HE3.out];rfl,?_,S5.out.bl.grown HG6.out S5.out.bl.size (fun g hg=>(HO5.out.lt g hg).1)⟩
    rw [HOUT.out]
    have h1:=HO6.out
    have h2:(0::0::(be 2 jb.length++jb)).length=2+2+jb.length:=by simp [zb2];omega
    rw [h2]
    simpa using h1
  ·have HE2:Hid (zjf u.up=je):=hide (by rw [HE.out];exact if_pos hj)
   have hjb:(je==0)=false:=beq_eq_false_iff_ne.2 hj
   have HJ:=hide hj
   have hjn:(je != 0)=true:=by rw [bne_iff_ne];exact hj
   clear HE hj
   go_wp2
   go_ret2
   exact znb HE2.out HJ.out S3.out.bl
end
end Go.Proofs.YtookpplebikfnaaGreatDoor
