/-
  Read of package attr over what an update wrote: the items come back, the routes are left; and what can be said of Read whatever came (ReadI). The conditions: the program's table of kinds is in its place (Known), and the sizes that bytes can have.
  What Write of package attr does with attributes, and Few of the statements, in whatever memory. The one condition: the table of kinds holds what its text lays.
  Which updates are right: few, Right of package update, in whatever memory. The one condition beyond sizes that fit memory: the program's tables hold what its text lays.
-/
import Derived.Test.YtookpplebikfnaaGreatDoorKUBN
set_option linter.unusedVariables false
set_option linter.unusedSimpArgs false
namespace Go.Proofs.YtookpplebikfnaaGreatDoor
section
open Go.RowKit
open Go.Maps (Keyed IsMap Tidy)
theorem ze1.mono {w w':World} {r m lo2:Nat} {rv:Value} {J J':Ats→List Rw→Int→Prop} {e:Ending} (h:ze1 w r m lo2 rv J e w') (hJ:∀ a l o,J a l o→J' a l o):ze1 w r m lo2 rv J' e w':=by
 obtain ⟨out,h1,p',rv',rs',h2,h3⟩:=h
 exact ⟨out,h1,p',rv',rs',hJ _ _ _ h2,h3⟩
theorem zqw.mono {w w':World} {J J':Ats→List Rw→Int→Prop} {e:Ending} (h:zqw w J e w') (hJ:∀ a l o,J a l o→J' a l o):zqw w J' e w':=by
 obtain ⟨p,rv,rs,out,h1,h2,h3⟩:=h
 exact ⟨p,rv,rs,out,h1,hJ _ _ _ h2,h3⟩
theorem zsY {l:List RawP} {K:Int} (h:∀ y∈l,y.k≠K):cntK K l=0:=by
 unfold cntK
 rw [List.length_eq_zero_iff,List.filter_eq_nil_iff]
 intro y hy
 simpa using h y hy
theorem zsX {l:List RawP} (hd:(l.map RawP.k).Pairwise (· ≠ ·)) {j:Nat} {x:RawP} (hx:l[j]?=some x):cntK x.k (l.take j)=0:=by
 refine zsY (fun y hy=>?_)
 have hp:=List.pairwise_map.1 hd
 rw [← List.take_append_drop j l] at hp
 have h1:=(List.pairwise_append.1 hp).2.2 y hy x (List.mem_of_getElem? (by rw [List.getElem?_drop,Nat.add_zero];exact hx))
 exact h1
theorem zrI (w:World) (lo hi:Nat) (A:Option Addr) (n c:Nat) (l:List RawP) (h:zcb w lo hi A n l) (hh:hi≤w.heap.size) (hn:n≤100000) (hkn:zc1 w) (its:List Item) (rts:List Rw) (hraws:l.map RawP.raw=its.map Item.rw++rts) (hd:(l.map RawP.k).Pairwise (· ≠ ·)) (hrt:∀ y∈rts,(y.k=14∨y.k=15)∧y.f=128) (hok:∀ i∈its,i.Ok) (hS:∀ i∈its,∀ a0,zcN i a0) (hv:∀ x∈l,x.v.length≤800000) :
  Calls Tryz.prog 30 #[.slice A n c] w (zqw w (fun a l' out=>a=zdw its zb4∧l'=rts∧out=finO l 0)):=by
 have hlen:n=its.length+rts.length:=by
  have h1:=congrArg List.length hraws
  rw [List.length_map,List.length_append,List.length_map,h.len] at h1
  exact h1
 have hat1:∀ (j:Nat) (x:RawP),l[j]?=some x→j<its.length→∃ i,its[j]?=some i∧x.raw=i.rw:=fun j x hx hj=>by
  have h1:=congrArg (fun l:List Rw=>l[j]?) hraws
  simp only [List.getElem?_map,hx,Option.map_some] at h1
  rw [List.getElem?_append_left (by rw [List.length_map];exact hj),List.getElem?_map] at h1
  obtain ⟨i,h2,h3⟩:=Option.map_eq_some_iff.1 h1.symm
  exact ⟨i,h2,h3.symm⟩
 have hat2:∀ (j:Nat) (x:RawP),l[j]?=some x→¬ j<its.length→rts[j-its.length]?=some x.raw:=fun j x hx hj=>by
  have h1:=congrArg (fun l:List Rw=>l[j]?) hraws
  simp only [List.getElem?_map,hx,Option.map_some] at h1
  rw [List.getElem?_append_right (by rw [List.length_map];omega),List.length_map] at h1
  exact h1.symm
 have key:=znf w lo hi A n c l h hh hn
  (fun x hx=>by
   obtain ⟨j,hj,hjx⟩:=List.getElem_of_mem hx
   have hx9:l[j]?=some x:=by rw [List.getElem?_eq_getElem hj,hjx]
   by_cases hlt:j<its.length
   ·obtain ⟨i,h1,h2⟩:=hat1 j x hx9 hlt
    have e:x.k=i.kind:=congrArg Rw.k h2
    rw [e]
    exact (zka i).1
   ·have h1:=(hrt _ (List.mem_of_getElem? (hat2 j x hx9 hlt))).1
    have h2:x.k=14∨x.k=15:=h1
    rcases h2 with h2 | h2 <;> rw [h2] <;> decide)
  (fun k a rest o=>a=zdw (its.take k) zb4∧rest=rts.take (k-its.length)∧o=0) ⟨rfl,by rw [Nat.zero_sub];rfl,rfl⟩
  (fun j x hx wr r m lo2 cnt D p rv rs o hI hbel hrd hmp hct hatR how hrs hlo hr _=>by
   obtain ⟨hI1,hI2,rfl⟩:=hI
   have hmem:=List.mem_of_getElem? hx
   rw [zsX hd hx] at hct
   have hjn:j<n:=by have h1:=(List.getElem?_eq_some_iff.1 hx).1;rw [h.len] at h1;exact h1
   by_cases hlt:j<its.length
   ·obtain ⟨i,h1,h2⟩:=hat1 j x hx hlt
    have himem:=List.mem_of_getElem? h1
    have hpre:zdZ (zdw (its.take j) zb4):=zjU zpP (fun i hi=>hok i (List.mem_of_mem_take hi))
    have hsayR:zbK (i.say p.ats)=true:=by rw [hI1];exact (zf6 _).2 (zlL hpre (hok i himem))
    have hnext:i.say (zdw (its.take j) zb4)=zdw (its.take (j+1)) zb4:=by
     rw [List.take_add_one,h1,zcc]
     rfl
    refine (zpO w lo hi A n l h hh hkn x hmem i h2 wr r m lo2 cnt D p rv rs hbel hrd hmp hct hatR how hlo hr hsayR (hS i himem _)).mono ?_
    intro e w' hg
    refine hg.mono ?_
    rintro a l' out ⟨rfl,rfl,rfl⟩
    refine ⟨⟨by rw [hI1];exact hnext,by rw [hI2,show j-its.length=0 by omega,show j+1-its.length=0 by omega],by decide⟩,?_⟩
    rw [hI2,List.length_take];omega
   ·have h1:=hat2 j x hx hlt
    obtain ⟨h2,h3⟩:=hrt _ (List.mem_of_getElem? h1)
    have hwf:(Lit.int .i64 x.k).wf=true:=by
     have h2:x.k=14∨x.k=15:=h2
     rcases h2 with h2 | h2 <;> rw [h2] <;> decide
    refine (zse w lo hi A n l h hh hkn x hmem (hv x hmem) hwf wr r m lo2 cnt D p rv rs 0 hbel hrd hmp hct hatR how (by omega) hlo hr).mono ?_
    intro e w' hg
    refine hg.mono ?_
    intro a l' out hst
    have hkk:zeW x.raw.k=false:=by rcases h2 with h2 | h2 <;> rw [h2] <;> decide
    have hend:a=p.ats∧l'=rs.map RawP.raw++[x.raw]∧out=0:=by
     rcases hst with ⟨h4,_⟩ | ⟨_,h5,⟨h6,_⟩ | ⟨_,h6,h7⟩⟩ | ⟨_,h4,h5,_⟩
     ·rw [hkk] at h4;cases h4
     ·omega
     ·rw [if_pos h3] at h7;exact ⟨h5,h6,h7⟩
     ·omega
    obtain ⟨rfl,rfl,rfl⟩:=hend
    refine ⟨⟨?_,?_,by decide⟩,?_⟩
    ·rw [hI1,List.take_of_length_le (by omega),List.take_of_length_le (by omega)]
    ·rw [hI2,show j+1-its.length=(j-its.length)+1 by omega,List.take_add_one,h1];rfl
    ·rw [hI2,List.length_append,List.length_take];show _+1≤_;omega)
 refine key.mono ?_
 intro e w' hg
 refine hg.mono ?_
 rintro a l' out ⟨o,⟨rfl,rfl,rfl⟩,rfl⟩
 exact ⟨by rw [List.take_of_length_le (by omega)],by rw [List.take_of_length_le (by omega)],rfl⟩
section
variable {l:List RawP} {k:Nat} {a:Ats} {rest:List Rw} {o:Int}
end
end
section
open Go.RowKit
def zgd (a:Ats) (k:Nat):List Item :=
 match k with
 | 0=>[.origin a.o]
 | 1=>[.path a.path]
 | 2=>if 0≤a.med then [.med a.med] else []
 | 3=>if 0≤a.pref then [.pref a.pref] else []
 | 4=>if 0<a.os then [.orig a.os a.ob] else []
 | 5=>if a.cl=[] then [] else [.clus a.cl]
 | 6=>if a.ex=[] then [] else [.exts a.ex]
 | 7=>tunI a.tn
 | _=>[]
def zk1 (a:Ats):Nat→List Item
 | 0=>[]
 | k+1=>zk1 a k++zgd a k
theorem znA (a:Ats):zk1 a 8=zce a:=by
 show ((((((([]++zgd a 0)++zgd a 1)++zgd a 2)++zgd a 3)++zgd a 4)++zgd a 5)++zgd a 6)++zgd a 7=_
 unfold zce zgd
 simp only [List.nil_append,List.append_assoc]
 rfl
def zgx (a:Ats) (k:Nat):List Rw:=(zk1 a k).map Item.rw
theorem zhb (a:Ats):zgx a 8=ze2 a:=by unfold zgx ze2;rw [znA]
theorem zf7 (a:Ats) (k:Nat):zgx a (k+1)=zgx a k++(zgd a k).map Item.rw:=by unfold zgx;show ((zk1 a k++zgd a k).map Item.rw)=_;rw [List.map_append]
theorem zsz (a:Ats) (k:Nat):(zgd a k).length≤1:=by
 unfold zgd
 split
 all_goals first | exact Nat.le_refl _ | (split <;> simp) | (unfold tunI;split <;> simp) | simp
theorem zfy (a:Ats):∀ k,(zgx a k).length≤k
 | 0=>Nat.le_refl _
 | k+1=>by
  have h1:=zfy a k
  have h2:=zsz a k
  rw [zf7,List.length_append,List.length_map]
  omega
def knK (k:Nat):Int:=match k with | 0=>1 | 1=>2 | 2=>4 | 3=>5 | 4=>9 | 5=>10 | 6=>16 | _=>22
def knF (k:Nat):Int:=match k with | 0=>64 | 1=>64 | 2=>128 | 3=>64 | 4=>128 | 5=>128 | 6=>192 | _=>192
theorem zuL (w:World) {k:Nat} (h:k<8):(Instr.index 132 (.agg #[.int .i64 1,.int .i64 64,.int .i64 2,.int .i64 64,.int .i64 4,.int .i64 128,.int .i64 5,.int .i64 64,.int .i64 9,.int .i64 128,.int .i64 10,.int .i64 128,.int .i64 16,.int .i64 192,.int .i64 22,.int .i64 192]) (.int .i64 (k:Int))).run Tryz.prog w = .ok (.agg #[.int .i64 (knK k),.int .i64 (knF k)]) w:=by
 match k,h with
 | 0,_=>exact zcF w
 | 1,_=>exact zc9 w
 | 2,_=>exact zdy w
 | 3,_=>exact zdV w
 | 4,_=>exact zep w
 | 5,_=>exact zfg w
 | 6,_=>exact zgG w
 | 7,_=>exact zi2 w
theorem val_kn (p:AtP) (hr:zdZ p.ats) (k:Nat) (hk:k<8):∃ (b:List UInt8) (there:Bool),(zgd p.ats k).map Item.rw=(if there then [⟨knF k,knK k,b⟩] else []) ∧
  ∀ (x:World) (lo hi:Nat),zat x lo hi p→hi≤x.heap.size→Calls Tryz.prog 74 #[.agg (attC p),.int .i64 (knK k)] x (zaO x b there):=by
 have hpth:(p.path.length≤16)∧p.path.all okS=true:=by
  have h1:=hr.path
  unfold zj1 at h1
  rw [Bool.and_eq_true,decide_eq_true_eq] at h1
  obtain ⟨h2,h3⟩:=h1
  have h4:p.ats.path=p.path.map SgP.sg:=rfl
  rw [h4,List.length_map] at h2
  rw [h4,List.all_map] at h3
  exact ⟨h2,h3⟩
 have htun:(p.tl.length≤1)∧p.tl.all okT=true:=by
  obtain ⟨h2,h3⟩:=hr.tn
  have h4:p.ats.tn=p.tl.map TnP.tun:=rfl
  rw [h4,List.length_map] at h2
  rw [h4,List.all_map] at h3
  exact ⟨h2,h3⟩
 match k,hk with
 | 0,_ =>
  obtain ⟨O,hO⟩:∃ O:Nat,p.o=O:=⟨p.o.toNat,by have:=hr.o.1;have h:p.ats.o=p.o:=rfl;omega⟩
  have hO2:O≤255:=by have:=hr.o.2;have h:p.ats.o=p.o:=rfl;omega
  refine ⟨[UInt8.ofNat O],true,?_,fun x lo hi h hh=>zmN x lo hi p h hh O hO hO2⟩
  show [Item.rw (.origin p.o)]=_
  rw [hO]
  show [(⟨64,1,[UInt8.ofNat ((O:Nat):Int).toNat]⟩:Rw)]=_
  rw [Int.toNat_natCast]
  rfl
 | 1,_=>exact ⟨zd0 (p.path.map SgP.sg),true,rfl,fun x lo hi h hh=>zqJ x lo hi p h hh hpth.1 hpth.2⟩
 | 2,_ =>
  by_cases hm:0≤p.med
  ·exact ⟨be 4 p.med.toNat,true,by show (if 0≤p.med then [Item.med p.med] else []).map Item.rw=_;rw [if_pos hm];rfl,fun x lo hi h hh=>zmM x lo hi p h hh ⟨hm,hr.med.2⟩⟩
  ·exact ⟨be 4 p.med.toNat,false,by show (if 0≤p.med then [Item.med p.med] else []).map Item.rw=_;rw [if_neg hm];rfl,fun x lo hi h hh=>ztE x lo hi p h hh (by omega)⟩
 | 3,_ =>
  by_cases hm:0≤p.pref
  ·exact ⟨be 4 p.pref.toNat,true,by show (if 0≤p.pref then [Item.pref p.pref] else []).map Item.rw=_;rw [if_pos hm];rfl,fun x lo hi h hh=>zmL x lo hi p h hh ⟨hm,hr.pref.2⟩⟩
  ·exact ⟨be 4 p.pref.toNat,false,by show (if 0≤p.pref then [Item.pref p.pref] else []).map Item.rw=_;rw [if_neg hm];rfl,fun x lo hi h hh=>ztD x lo hi p h hh (by omega)⟩
 | 4,_ =>
  rcases hr.orig with hz | hf
  ·have hz1:p.os=0:=hz.1
   exact ⟨zar p.os p.ob,false,by show (if 0<p.os then [Item.orig p.os p.ob] else []).map Item.rw=_;rw [if_neg (by omega)];rfl,fun x lo hi h hh=>zn2 x lo hi p h hh hz⟩
  ·have hf4:p.os=4:=by have h1:four p.os p.ob=true:=hf;unfold four at h1;rw [Bool.and_eq_true,decide_eq_true_eq] at h1;exact h1.1
   exact ⟨zar p.os p.ob,true,by show (if 0<p.os then [Item.orig p.os p.ob] else []).map Item.rw=_;rw [if_pos (by omega)];rfl,fun x lo hi h hh=>zmK x lo hi p h hh hf⟩
 | 5,_ =>
  obtain ⟨h1,h2⟩:=hr.cl
  have e:∀ l:List (Int × List UInt8),clB l=catE fD l:=fun l=>(zql l).symm
  by_cases hc:p.cl=[]
  ·exact ⟨clB p.cl,false,by show (if p.cl=[] then [] else [Item.clus p.cl]).map Item.rw=_;rw [if_pos hc];rfl,fun x lo hi h hh=>zqL x lo hi p h hh h1 h2 (by rw [hc];rfl)⟩
  ·refine ⟨clB p.cl,true,by show (if p.cl=[] then [] else [Item.clus p.cl]).map Item.rw=_;rw [if_neg hc];rfl,fun x lo hi h hh=>zn4 x lo hi p h hh h1 h2 ?_⟩
   have hl:(clB p.cl).length=4*p.cl.length:=zje (fun y hy=>h.cl.sz y hy) h2
   have:0<p.cl.length:=List.length_pos_iff.2 hc
   omega
 | 6,_ =>
  by_cases hc:p.ex=[]
  ·exact ⟨zaY p.ex,false,by show (if p.ex=[] then [] else [Item.exts p.ex]).map Item.rw=_;rw [if_pos hc];rfl,fun x lo hi h hh=>zlp x lo hi p h hh (by rw [hc];rfl)⟩
  ·exact ⟨zaY p.ex,true,by show (if p.ex=[] then [] else [Item.exts p.ex]).map Item.rw=_;rw [if_neg hc];rfl,fun x lo hi h hh=>zn3 x lo hi p h hh hr.ex (List.length_pos_iff.2 hc)⟩
 | 7,_ =>
  cases ht:p.tl with
  | nil =>
   refine ⟨catE fT p.tl,false,?_,fun x lo hi h hh=>zqI x lo hi p h hh htun.1 htun.2 (by rw [ht];rfl)⟩
   show (tunI (p.tl.map TnP.tun)).map Item.rw=_
   rw [ht]
   rfl
  | cons t r =>
   have hr0:r=[]:=by
    have h1:=htun.1
    rw [ht] at h1
    exact List.eq_nil_of_length_eq_zero (by have h2:r.length+1≤1:=h1;omega)
   subst hr0
   refine ⟨catE fT p.tl,true,?_,fun x lo hi h hh=>zkt x lo hi p h hh htun.1 htun.2 ?_⟩
   ·show (tunI (p.tl.map TnP.tun)).map Item.rw=_
    rw [ht]
    show [(⟨192,22,zb9 t.tun⟩:Rw)]=[⟨192,22,fT t++[]⟩]
    rw [List.append_nil]
    rfl
   ·rw [ht]
    show 0<(fT t++[]).length
    unfold fT zb9 zmb
    simp
theorem AtS.grown {w x y:World} {lo hi:Nat} {p:AtP} (h:AtS w x lo hi p) {row:Option Nat} (hg:x.grownBy y row) (hr:∀ g,row=some g→w.heap.size<g):AtS w y lo hi p :=
 ⟨h.b.grown hg (fun e=>by have:=hr _ e.symm;omega),h.at_.grown hg h.hx (fun g e=>.inr (by have:=hr g e;have:=h.hh;omega)),h.bl.grown hg h.bl.size (fun g e=>by have:=hr g e;omega),h.hh⟩
def ztv (w:World) (a:Ats) (e:Ending) (w':World):Prop :=
 ∃ v xs,e = .returned (.tuple #[v,.int .i64 0])∧zav w' w.heap.size 89 5 v xs∧xs.map RawP.raw=ze2 a∧Below w.heap.size w w'
set_option maxRecDepth 20000 in
set_option maxHeartbeats 6000000 in
theorem zqy (w:World) (lo hi:Nat) (p:AtP) (h:zat w lo hi p) (hh:hi≤w.heap.size) (hkn:zc1 w) (hr:zbK p.ats=true) :
  Calls Tryz.prog 41 #[.agg (attC p)] w (ztv w p.ats):=by
 have hra:=(zf6 p.ats).1 hr
 have HVAL:=hide (val_kn p hra)
 have S0:=hide (AtS.start h hh)
 have HOB:=h.ob
 have RN0:=hide (zak (l:=attL p) S0.out.b)
 have KN0:=hide (hkn.below ((Below.refl w.heap.size w).alloc (Nat.le_refl _) (.cells (attC p) 30)))
 have HR:=hide hr
 have hsz0:(w.alloc (.cells (attC p) 30)).heap.size=w.heap.size+1:=by simp
 clear h hkn hr hra
 go_enter Tryz.func41,Tryz.ntmps41
 go_wp2_with ((with_reducible refine zay ?_ (.tmp 1) rfl w.heap.size 0 rfl RN0.out HOB ?_);· rfl)
 generalize w.alloc (.cells (attC p) 30)=w0 at *
 refine (zcO w0 lo hi p S0.out.at_ S0.out.hx).mono ?_
 rw [HR.out]
 rintro e w1 ⟨rfl,hb1⟩
 have S1:=hide (S0.out.on hb1)
 have KN1:=hide (KN0.out.below hb1)
 have hz1:=hb1.size
 clear hb1 S0 RN0 KN0
 obtain ⟨base,hbase⟩:∃ base,w1.heap.size=base:=⟨_,rfl⟩
 have hbw:w.heap.size<base:=by omega
 have HBS:=hide hbase
 clear hbase
 go_wp2_with (with_reducible refine zbi rfl (.global 0) rfl rfl KN1.out ?_)
 go_loopw [4,13] (fun v i wr=>∃ (k q c:Nat) (B:Option Addr) (xs:List RawP),k≤8∧v = .slice B q c∧i = .int .i64 k∧xs.length=q∧zav wr base 89 5 (.slice B q c) xs∧xs.map RawP.raw=zgx p.ats k∧AtS w wr lo hi p∧base≤wr.heap.size) (fun _ i _=>8-(intOf i).toNat)
 case atStart=>exact ⟨0,0,0,none,[],by decide,rfl,rfl,rfl,zav.nil _ _ _ _,rfl,S1.out,by rw [HBS.out];exact Nat.le_refl _⟩
 case round =>
  obtain ⟨k,q,c,B,xs,hk,rfl,rfl,hql,hown,hraws,hst,hbz⟩:=hrel
  have HO:=hide hown
  have HRW:=hide hraws
  have ST:=hide hst
  have HQL:=hide hql
  have hq8:q≤8:=by have h1:=zfy p.ats k;rw [← hraws,List.length_map,hql] at h1;omega
  clear hown hraws hst hql
  by_cases hlt:k<8
  ·have hkl:((k:Nat):Int)<8:=by omega
   have qk:=fun (x:World)=>zuL x hlt
   obtain ⟨b,there,hit,hval⟩:=HVAL.out k hlt
   obtain ⟨K,hK⟩:∃ K,knK k=K:=⟨_,rfl⟩
   obtain ⟨F,hF⟩:∃ F,knF k=F:=⟨_,rfl⟩
   rw [hK,hF] at qk hit
   rw [hK] at hval
   have HIT:=hide hit
   have HVL:=hide hval
   clear hit hval hK hF
   have RNr:=hide (zak (l:=attL p) ST.out.b)
   have B9:Hid (Below wr.heap.size wr (wr.alloc (.cells #[.int .i64 K,.int .i64 F] 131))):=hide ((Below.refl _ _).alloc (Nat.le_refl _) _)
   have c90:(wr.alloc (.cells #[.int .i64 K,.int .i64 F] 131)).cell? ⟨wr.heap.size,0,none⟩=some (.int .i64 K):=(Blk.new wr _ _).cell 0
   have c91:(wr.alloc (.cells #[.int .i64 K,.int .i64 F] 131)).cell? ⟨wr.heap.size,1,none⟩=some (.int .i64 F):=(Blk.new wr _ _).cell 1
   have RN9:=hide (zak (l:=attL p) (ST.out.b.over B9.out))
   go_wp2_with ((with_reducible refine zay ?_ (.tmp 1) rfl w.heap.size 0 rfl RN9.out HOB ?_);· rfl)
   have S9:=hide (ST.out.on B9.out)
   have HO9:=hide (HO.out.over B9.out)
   have KB9:=hide (Blk.new wr 131 #[.int .i64 K,.int .i64 F])
   have hz9:=B9.out.size
   have HNB:Hid (∀ j,zfn (.slice B q c) xs j→j<wr.heap.size):=hide (fun j hj=>(HO.out.lt j hj).2)
   clear RNr RN9 B9 ST HO c90 c91 qk
   generalize (wr.alloc (.cells #[.int .i64 K,.int .i64 F] 131))=w9 at *
   refine (HVL.out w9 lo hi S9.out.at_ S9.out.hx).mono ?_
   rintro e w2 ⟨v2,rfl,ho2,hb2⟩
   have S2:=hide (S9.out.on hb2)
   have HO2:=hide (HO9.out.over hb2)
   have KB2:=hide (KB9.out.over hb2)
   have hz2:=hb2.size
   clear hb2 S9 HO9 KB9
   cases there
   ·have hnx:xs.map RawP.raw=zgx p.ats (k+1):=by rw [zf7,HIT.out,HRW.out];simp
    have HNX:=hide hnx
    clear hnx ho2
    go_wp2_with fail
    go_roundw
    case rel=>exact ⟨k+1,q,c,B,xs,by omega,rfl,by go_num,HQL.out,HO2.out,HNX.out,S2.out,by omega⟩
    case measure=>simp [intOf];omega
   ·have OX2:=hide (ho2 rfl)
    obtain ⟨A2,c2,rfl,_,_⟩:=zad (ho2 rfl)
    have HW4:Hid (Below w2.heap.size w2 (w2.alloc (.cells (rawC ⟨F,K,A2,b.length,c2,b⟩) 89))):=hide ((Below.refl _ _).alloc (Nat.le_refl _) _)
    obtain ⟨v5,w5,hrun,ho5,hg5,hat5⟩:=zgy (w2.alloc (.cells (rawC ⟨F,K,A2,b.length,c2,b⟩) 89)) base 59 (.slice B q c) xs (HO2.out.over HW4.out) ⟨F,K,A2,b.length,c2,b⟩ (zb2 (za6 OX2.out HW4.out) (by omega)) (fun j hj hbk=>by have h1:=HNB.out j hbk;have h2:=(OX2.out.lt j hj).1;omega) _ _ _ 1 (AtG.one (Blk.new w2 89 (rawC ⟨F,K,A2,b.length,c2,b⟩))) (by rw [HQL.out];omega) (Nat.le_trans (by omega) HW4.out.size)
    have HRUN:=hide hrun
    have HO5:=hide ho5
    have S5:=hide ((S2.out.on HW4.out).grown hg5 (fun g e=>by have:=(HO2.out.lt g (.inl e)).1;omega))
    have hz5:=Nat.le_trans HW4.out.size hg5.size
    have hnx:(xs++[(⟨F,K,A2,b.length,c2,b⟩:RawP)]).map RawP.raw=zgx p.ats (k+1):=by rw [zf7,HIT.out,← HRW.out,List.map_append];rfl
    have HNX:=hide hnx
    have k0:w2.cell? ⟨wr.heap.size,0,none⟩=some (.int .i64 K):=KB2.out.cell 0
    have k1:w2.cell? ⟨wr.heap.size,1,none⟩=some (.int .i64 F):=KB2.out.cell 1
    clear hrun ho5 hg5 hat5 hnx ho2 HO2 OX2 S2 HNB KB2
    go_wp2_with (first
     | (with_reducible refine zcA rfl (.tmp 30) rfl ⟨F,K,A2,b.length,c2,b⟩ rfl ?_)
     | (at_builtin;refine zaS rfl (.tmp 24) (.tmp 31) 59 59 59 rfl rfl rfl rfl HRUN.out ?_;refine Hid.out ?_))
    refine hide ?_
    obtain ⟨B5,c5,rfl,_,_⟩:=HO5.out.shape
    go_wp2
    go_roundw
    case rel=>exact ⟨k+1,q+1,c5,B5,_,by omega,by rw [List.length_append,HQL.out];rfl,by go_num,by rw [List.length_append,HQL.out];rfl,by have:=HO5.out;rw [List.length_append,HQL.out] at this;exact this,HNX.out,S5.out,by omega⟩
    case measure=>simp [intOf];omega
  ·obtain rfl:k=8:=by omega
   go_wp2
   go_ret2
   exact ⟨.slice B q c,xs,rfl,HO.out.more (by omega),by rw [HRW.out,zhb],ST.out.bl⟩
end
section
set_option maxRecDepth 20000
set_option maxHeartbeats 2000000
open Go.RowKit
def zcP (u:Up):Bool:=zbK u.at_&&(fewT zc6 u.re&&(fewT (za7 false) u.un&&(decide (0<u.re.length)||zdl u.at_ zb4)))
def zty (F:FuncId) (ok:Tb→Bool):Prop:=∀ (w:World) (lo hi:Nat) (x:TbP),mTb w lo hi x→wTb x→hi≤w.heap.size→FitT x→zaQ w→∀ g:Nat,Blk w g 63 #[.func (.func F) #[] #[]] →
 Calls Tryz.prog 50 #[.agg (tbC x),.pointer (some ⟨g,0,none⟩)] w fun e w'=>e = .returned (.bool (!ok x.tb))∧Below w.heap.size w w'
theorem zib:zty 25 (zc6):=by
 intro w lo hi x hm hw hh hfit hN g hb
 have S0:=hide (TbS.start hm hw hh)
 have N0:=hide (hN.below S0.out.bl)
 have c0:(w.alloc (.cells (tbC x) 53)).cell? ⟨g,0,none⟩=some (.func (.func 25) #[] #[]):=(hb.alloc _).cell 0
 have RG:=hide S0.out.rng
 have HOB:=hide (zdj hw)
 have HFT:=hide hfit
 have HH:=hide (show hi≤(w.alloc (.cells (tbC x) 53)).heap.size from Nat.le_trans hh S0.out.bl.size)
 obtain ⟨r,hr⟩:∃ r,zc6 x.tb=r:=⟨_,rfl⟩
 have HR:=hide hr
 rw [hr]
 clear hm hb hr hw hfit hN
 go_enter Tryz.func50,Tryz.ntmps50
 go_wp2_with ((with_reducible refine zao ?_ (.tmp 2) rfl w.heap.size 0 rfl x RG.out HOB.out ?_);· rfl)
 refine (zna _ lo hi x S0.out.m S0.out.sz HH.out HFT.out N0.out).mono ?_
 rw [HR.out]
 rintro e w1 ⟨rfl,hb1⟩
 have S1:=hide (S0.out.on hb1)
 go_wp2
 go_ret
 exact ⟨rfl,S1.out.bl⟩
theorem zk0:zty 26 (za7 false):=by
 intro w lo hi x hm hw hh hfit hN g hb
 have S0:=hide (TbS.start hm hw hh)
 have N0:=hide (hN.below S0.out.bl)
 have c0:(w.alloc (.cells (tbC x) 53)).cell? ⟨g,0,none⟩=some (.func (.func 26) #[] #[]):=(hb.alloc _).cell 0
 have RG:=hide S0.out.rng
 have HOB:=hide (zdj hw)
 have HFT:=hide hfit
 have HH:=hide (show hi≤(w.alloc (.cells (tbC x) 53)).heap.size from Nat.le_trans hh S0.out.bl.size)
 obtain ⟨r,hr⟩:∃ r,za7 false x.tb=r:=⟨_,rfl⟩
 have HR:=hide hr
 rw [hr]
 clear hm hb hr hw hfit hN
 go_enter Tryz.func50,Tryz.ntmps50
 go_wp2_with ((with_reducible refine zao ?_ (.tmp 2) rfl w.heap.size 0 rfl x RG.out HOB.out ?_);· rfl)
 refine (zm8 _ lo hi x S0.out.m S0.out.sz HH.out HFT.out N0.out).mono ?_
 rw [HR.out]
 rintro e w1 ⟨rfl,hb1⟩
 have S1:=hide (S0.out.on hb1)
 go_wp2
 go_ret
 exact ⟨rfl,S1.out.bl⟩
section
variable {F:FuncId} {ok:Tb→Bool}
set_option maxHeartbeats 1000000 in
theorem zp9 (HF:zty F ok) (w:World) (lo hi:Nat) (A:Option Addr) (n c:Nat) (l:List TbP) (h:RowE tbL mTb wTb w lo hi A n l) (hh:hi≤w.heap.size) (hn:n≤1000000000000) (hfit:∀ x∈l,FitT x) (hN:zaQ w) (g:Nat) (hb:Blk w g 63 #[.func (.func F) #[] #[]]) :
  Calls Tryz.prog 90 #[.slice A n c,.func (.func 50) #[] #[.pointer (some ⟨g,0,none⟩)]] w fun e w'=>∃ r:Int,e = .returned (.int .i64 r)∧decide (0≤r)=(!(l.map TbP.tb).all ok)∧Below w.heap.size w w':=by
 have H:=hide h
 have HL:=hide h.len
 have HB:=hide hb
 have HFT:=hide hfit
 have HNM:=hide hN
 have HJ:=hide HF
 clear h hb hfit hN HF
 go_enter Tryz.func90,Tryz.ntmps90
 go_wp2_with fail
 go_loopw [8] (fun i wr=>∃ k:Nat,k≤n∧i = .int .i64 k∧(∀ x∈l.take k,ok x.tb=true)∧Below w.heap.size w wr) (fun i _=>n-(intOf i).toNat)
 case atStart=>exact ⟨0,Nat.zero_le _,rfl,(fun x hx=>by simp at hx),Below.refl _ _⟩
 case round =>
  obtain ⟨k,hk,rfl,hall,hbel⟩:=hrel
  have HA:=hide hall
  have WB:=hide hbel
  clear hall hbel
  by_cases hlt:k<n
  ·have YR:=hide (H.out.below mkTb (WB.out.mono hh))
   obtain ⟨b,o,x,rfl,_,_,hx,hat⟩:=YR.out.row.at_ (sz:=21) (fun y hy=>zhW (YR.out.sz y hy)) hlt
   have hmem:=List.mem_of_getElem? hx
   have HM:=hide (YR.out.mem x hmem)
   have HWX:=hide (YR.out.sz x hmem)
   have HOB:=hide (zdj HWX.out)
   have XF:=hide (HFT.out x hmem)
   have N1:=hide (HNM.out.below WB.out)
   have HX:=hide hx
   have HAT:=hide hat
   have HG:=hide (HB.out.over WB.out)
   have hh1:=Nat.le_trans hh WB.out.size
   obtain ⟨r,hr⟩:∃ r,ok x.tb=r:=⟨_,rfl⟩
   have HR:=hide hr
   have hkl:((k:Nat):Int)<(n:Int):=by omega
   clear hx hat hmem hr YR
   go_wp2_with ((with_reducible refine zao ?_ (.tmp 14) rfl b (o+k*21) rfl x HAT.out HOB.out ?_);· rfl)
   refine (HJ.out wr lo hi x HM.out HWX.out hh1 XF.out N1.out g HG.out).mono ?_
   rw [HR.out]
   rintro e w1 ⟨rfl,hb1⟩
   have WB1:=hide (zaa WB.out hb1 (Nat.le_refl _))
   clear hb1
   cases r
   ·have HF:Hid ((l.map TbP.tb).all ok=false):=hide (List.all_eq_false.2 ⟨x.tb,List.mem_map.2 ⟨x,List.mem_of_getElem? HX.out,rfl⟩,by rw [HR.out];decide⟩)
    go_wp2_with fail
    go_ret
    exact ⟨_,rfl,by rw [HF.out];exact decide_eq_true (by omega),WB1.out⟩
   ·have HNX:Hid (∀ y∈l.take (k+1),ok y.tb=true):=hide (by
     intro y hy
     rw [List.take_add_one,HX.out] at hy
     rcases List.mem_append.1 hy with hy | hy
     ·exact HA.out y hy
     ·rw [show y=x by simpa using hy];exact HR.out)
    go_wp2_with fail
    go_roundw
    case rel=>exact ⟨k+1,by omega,by go_num,HNX.out,WB1.out⟩
    case measure=>simp [intOf];omega
  ·obtain rfl:k=n:=by omega
   have HF:Hid ((l.map TbP.tb).all ok=true):=hide (by
    rw [List.all_eq_true]
    intro y hy
    obtain ⟨x,hx,rfl⟩:=List.mem_map.1 hy
    exact HA.out x (by rw [List.take_of_length_le (by rw [HL.out];exact Nat.le_refl _)];exact hx))
   go_wp2
   go_ret
   exact ⟨_,rfl,by rw [HF.out];rfl,WB.out⟩
theorem zlf (HF:zty F ok) (w:World) (lo hi:Nat) (A:Option Addr) (n c:Nat) (l:List TbP) (h:RowE tbL mTb wTb w lo hi A n l) (hh:hi≤w.heap.size) (hn:n≤1000000000000) (hfit:∀ x∈l,FitT x) (hN:zaQ w) (g:Nat) (hb:Blk w g 63 #[.func (.func F) #[] #[]]) :
  Calls Tryz.prog 51 #[.slice A n c,.func (.func 50) #[] #[.pointer (some ⟨g,0,none⟩)]] w fun e w'=>e = .returned (.bool (!(l.map TbP.tb).all ok))∧Below w.heap.size w w':=by
 have HC:=hide (zp9 HF w lo hi A n c l h hh hn hfit hN g hb)
 obtain ⟨q,hq⟩:∃ q,(l.map TbP.tb).all ok=q:=⟨_,rfl⟩
 have HQ:=hide hq
 rw [hq]
 clear h hb hq HF hfit hN
 go_enter Tryz.func51,Tryz.ntmps51
 go_wp2_with fail
 refine HC.out.mono ?_
 rintro e w1 ⟨r,rfl,hr,hb1⟩
 rw [HQ.out] at hr
 cases q
 ·have h0:(0:Int)≤r:=of_decide_eq_true hr
  clear hr
  go_wp2
  go_ret
  exact ⟨rfl,hb1⟩
 ·have h0:¬ (0:Int)≤r:=of_decide_eq_false hr
  clear hr
  go_wp2
  go_ret
  exact ⟨by show Ending.returned (.bool (decide (0≤r)))=_;rw [decide_eq_false (by omega)];rfl,hb1⟩
theorem zeJ (HF:zty F ok) (w:World) (lo hi:Nat) (A:Option Addr) (n c:Nat) (l:List TbP) (h:RowE tbL mTb wTb w lo hi A n l) (hh:hi≤w.heap.size) (hfit:∀ x∈l,FitT x) (hN:zaQ w) :
  Calls Tryz.prog 24 #[.slice A n c,.func (.func F) #[] #[]] w fun e w'=>e = .returned (.bool (fewT ok (l.map TbP.tb)))∧Below w.heap.size w w':=by
 unfold fewT
 rw [List.length_map,h.len]
 have H:Hid (RowE tbL mTb wTb (w.alloc (.cells #[.func (.func F) #[] #[]] 63)) lo hi A n l):=hide (h.keep mkTb fun p _ hp=>World.cell?_alloc_lt w _ p (by omega))
 have HB:Hid (Blk (w.alloc (.cells #[.func (.func F) #[] #[]] 63)) w.heap.size 63 #[.func (.func F) #[] #[]]):=hide (Blk.new w _ _)
 have B0:Hid (Below w.heap.size w (w.alloc (.cells #[.func (.func F) #[] #[]] 63))):=hide ((Below.refl _ _).alloc (Nat.le_refl _) _)
 have hh0:hi≤(w.alloc (.cells #[.func (.func F) #[] #[]] 63)).heap.size:=by simp;omega
 have N0:=hide (hN.below B0.out)
 have HFT:=hide hfit
 have HJ:=hide HF
 clear h hfit hN HF
 by_cases hn:n≤1
 ·have hnI:(n:Int)≤1:=by omega
  rw [decide_eq_true hn,Bool.true_and]
  obtain ⟨r,hr⟩:∃ r,(l.map TbP.tb).all ok=r:=⟨_,rfl⟩
  have HR:=hide hr
  rw [hr]
  clear hr
  go_enter Tryz.func24,Tryz.ntmps24
  go_wp2_with fail
  refine (zlf HJ.out _ lo hi A n c l H.out hh0 (by omega) HFT.out N0.out w.heap.size HB.out).mono ?_
  rw [HR.out]
  rintro e w1 ⟨rfl,hb1⟩
  have W1:=hide (zaa B0.out hb1 (by simp))
  clear hb1
  go_wp2
  go_ret
  exact ⟨by cases r <;> rfl,W1.out⟩
 ·have hnI:¬ (n:Int)≤1:=by omega
  rw [decide_eq_false hn,Bool.false_and]
  go_enter Tryz.func24,Tryz.ntmps24
  go_wp2
  go_ret
  exact ⟨rfl,B0.out⟩
end
structure FitU (u:UpP):Prop where
 at_:zbK u.at_.ats=true→Fit9 u.at_
 re:∀ x∈u.re,FitT x
 ne:∀ x∈u.ne,FitT x
structure UgS (w y:World) (lo hi:Nat) (u:UpP):Prop where
 s:UpS w y lo hi u
 n:zaQ y
section
variable {w y z:World} {lo hi:Nat} {u:UpP}
theorem UgS.on (h:UgS w y lo hi u) (hb:Below y.heap.size y z):UgS w z lo hi u:=⟨h.s.on hb,h.n.below hb⟩
theorem UgS.drew (h:UgS w y lo hi u):UgS w y.drew lo hi u:=h.on (zam (Below.refl _ _))
end
theorem zub (w:World) (lo hi:Nat) (u:UpP) (h:UpAt w lo hi u) (hh:hi≤w.heap.size) (hfit:FitU u) (hN:zaQ w) (H1:Hid (zbK u.at_.ats=false)) :
  Calls Tryz.prog 10 #[.agg (updC u)] w fun e w'=>e = .returned (.bool false)∧Below w.heap.size w w':=by
 have S0:=hide (UpS.start h hh)
 have Q0:Hid (UgS w (w.alloc (.cells (updC u) 33)) lo hi u):=hide ⟨S0.out,hN.below S0.out.bl⟩
 have HFT:=hide hfit
 have HOB:=hide h.ob
 clear h hfit hN S0
 go_enter Tryz.func10,Tryz.ntmps10
 go_wp2_with fail
 refine wp_region_held_drew (S:=fun z=>UgS w z lo hi u) (by kernel_rfl) Q0.out.drew (fun hHeld=>?_)
 refine rgT 0 ?_
 refine rgV 1 (.agg (attC u.at_)) (fun w' hSw=>za8 (.tmp 3) rfl w.heap.size 0 rfl hSw.s.ratt HOB.out) ?_
 refine zaf (i:=2) rfl (by kernel_rfl) (by rfl) (zcO _ lo hi u.at_ hHeld.s.at_.at_ hHeld.s.here) (fun w=>by kernel_rfl) ?_
 rw [H1.out]
 rintro e w1 ⟨rfl,hb1⟩
 refine ⟨_,rfl,hHeld.on hb1,fun hHeld=>?_⟩
 refine rgN ?_
 refine rgT 3 ?_
 refine rgS 4 ?_
 refine rgS 5 ?_
 refine rgS 6 ?_
 refine rgT 7 ?_
 refine rgT 8 ?_
 refine rgS 9 ?_
 refine rgS 10 ?_
 refine rgS 11 ?_
 refine rgT 12 ?_
 refine rgT 13 ?_
 refine rgS 14 ?_
 refine rgS 15 ?_
 refine rgS 16 ?_
 refine rgS 17 ?_
 refine rgS 18 ?_
 refine rgS 19 ?_
 refine rgS 20 ?_
 refine rgS 21 ?_
 refine rgS 22 ?_
 refine rgS 23 ?_
 refine rgT 24 ?_
 refine rgT 25 ?_
 refine wpAnyH_done (by kernel_rfl) ?_ _
 go_wp2_with fail
 go_ret
 exact ⟨rfl,hHeld.s.bl⟩
theorem zua (w:World) (lo hi:Nat) (u:UpP) (h:UpAt w lo hi u) (hh:hi≤w.heap.size) (hfit:FitU u) (hN:zaQ w) (H1:Hid (zbK u.at_.ats=true)) (H2:Hid (fewT zc6 (u.re.map TbP.tb)=false)) :
  Calls Tryz.prog 10 #[.agg (updC u)] w fun e w'=>e = .returned (.bool false)∧Below w.heap.size w w':=by
 have S0:=hide (UpS.start h hh)
 have Q0:Hid (UgS w (w.alloc (.cells (updC u) 33)) lo hi u):=hide ⟨S0.out,hN.below S0.out.bl⟩
 have HFT:=hide hfit
 have HOB:=hide h.ob
 clear h hfit hN S0
 go_enter Tryz.func10,Tryz.ntmps10
 go_wp2_with fail
 refine wp_region_held_drew (S:=fun z=>UgS w z lo hi u) (by kernel_rfl) Q0.out.drew (fun hHeld=>?_)
 refine rgT 0 ?_
 refine rgV 1 (.agg (attC u.at_)) (fun w' hSw=>za8 (.tmp 3) rfl w.heap.size 0 rfl hSw.s.ratt HOB.out) ?_
 refine zaf (i:=2) rfl (by kernel_rfl) (by rfl) (zcO _ lo hi u.at_ hHeld.s.at_.at_ hHeld.s.here) (fun w=>by kernel_rfl) ?_
 rw [H1.out]
 rintro e w1 ⟨rfl,hb1⟩
 refine ⟨_,rfl,hHeld.on hb1,fun hHeld=>?_⟩
 refine rgN ?_
 refine rgT 3 ?_
 refine rgT 4 ?_
 refine rgK 5 (fun w' hSw=>hSw.s.c24) ?_
 refine zaf (i:=6) rfl (by kernel_rfl) (by rfl) (zeJ zib _ lo hi u.rA u.rn u.rc u.re hHeld.s.at_.re hHeld.s.here HFT.out.re hHeld.n) (fun w=>by kernel_rfl) ?_
 rw [H2.out]
 rintro e w2 ⟨rfl,hb2⟩
 refine ⟨_,rfl,hHeld.on hb2,fun hHeld=>?_⟩
 refine rgN ?_
 refine rgT 7 ?_
 refine rgT 8 ?_
 refine rgS 9 ?_
 refine rgS 10 ?_
 refine rgS 11 ?_
 refine rgT 12 ?_
 refine rgT 13 ?_
 refine rgS 14 ?_
 refine rgS 15 ?_
 refine rgS 16 ?_
 refine rgS 17 ?_
 refine rgS 18 ?_
 refine rgS 19 ?_
 refine rgS 20 ?_
 refine rgS 21 ?_
 refine rgS 22 ?_
 refine rgS 23 ?_
 refine rgT 24 ?_
 refine rgT 25 ?_
 refine wpAnyH_done (by kernel_rfl) ?_ _
 go_wp2_with fail
 go_ret
 exact ⟨rfl,hHeld.s.bl⟩
theorem zt9 (w:World) (lo hi:Nat) (u:UpP) (h:UpAt w lo hi u) (hh:hi≤w.heap.size) (hfit:FitU u) (hN:zaQ w) (H1:Hid (zbK u.at_.ats=true)) (H2:Hid (fewT zc6 (u.re.map TbP.tb)=true)) (H3:Hid (fewT (za7 false) (u.ne.map TbP.tb)=false)) :
  Calls Tryz.prog 10 #[.agg (updC u)] w fun e w'=>e = .returned (.bool false)∧Below w.heap.size w w':=by
 have S0:=hide (UpS.start h hh)
 have Q0:Hid (UgS w (w.alloc (.cells (updC u) 33)) lo hi u):=hide ⟨S0.out,hN.below S0.out.bl⟩
 have HFT:=hide hfit
 have HOB:=hide h.ob
 clear h hfit hN S0
 go_enter Tryz.func10,Tryz.ntmps10
 go_wp2_with fail
 refine wp_region_held_drew (S:=fun z=>UgS w z lo hi u) (by kernel_rfl) Q0.out.drew (fun hHeld=>?_)
 refine rgT 0 ?_
 refine rgV 1 (.agg (attC u.at_)) (fun w' hSw=>za8 (.tmp 3) rfl w.heap.size 0 rfl hSw.s.ratt HOB.out) ?_
 refine zaf (i:=2) rfl (by kernel_rfl) (by rfl) (zcO _ lo hi u.at_ hHeld.s.at_.at_ hHeld.s.here) (fun w=>by kernel_rfl) ?_
 rw [H1.out]
 rintro e w1 ⟨rfl,hb1⟩
 refine ⟨_,rfl,hHeld.on hb1,fun hHeld=>?_⟩
 refine rgN ?_
 refine rgT 3 ?_
 refine rgT 4 ?_
 refine rgK 5 (fun w' hSw=>hSw.s.c24) ?_
 refine zaf (i:=6) rfl (by kernel_rfl) (by rfl) (zeJ zib _ lo hi u.rA u.rn u.rc u.re hHeld.s.at_.re hHeld.s.here HFT.out.re hHeld.n) (fun w=>by kernel_rfl) ?_
 rw [H2.out]
 rintro e w2 ⟨rfl,hb2⟩
 refine ⟨_,rfl,hHeld.on hb2,fun hHeld=>?_⟩
 refine rgN ?_
 refine rgT 7 ?_
 refine rgT 8 ?_
 refine rgT 9 ?_
 refine rgK 10 (fun w' hSw=>hSw.s.c25) ?_
 refine zaf (i:=11) rfl (by kernel_rfl) (by rfl) (zeJ zk0 _ lo hi u.nA u.nn u.nc u.ne hHeld.s.at_.ne hHeld.s.here HFT.out.ne hHeld.n) (fun w=>by kernel_rfl) ?_
 rw [H3.out]
 rintro e w3 ⟨rfl,hb3⟩
 refine ⟨_,rfl,hHeld.on hb3,fun hHeld=>?_⟩
 refine rgN ?_
 refine rgT 12 ?_
 refine rgT 13 ?_
 refine rgS 14 ?_
 refine rgS 15 ?_
 refine rgS 16 ?_
 refine rgS 17 ?_
 refine rgS 18 ?_
 refine rgS 19 ?_
 refine rgS 20 ?_
 refine rgS 21 ?_
 refine rgS 22 ?_
 refine rgS 23 ?_
 refine rgT 24 ?_
 refine rgT 25 ?_
 refine wpAnyH_done (by kernel_rfl) ?_ _
 go_wp2_with fail
 go_ret
 exact ⟨rfl,hHeld.s.bl⟩
theorem zt8 (w:World) (lo hi:Nat) (u:UpP) (h:UpAt w lo hi u) (hh:hi≤w.heap.size) (hfit:FitU u) (hN:zaQ w) (H1:Hid (zbK u.at_.ats=true)) (H2:Hid (fewT zc6 (u.re.map TbP.tb)=true)) (H3:Hid (fewT (za7 false) (u.ne.map TbP.tb)=true)) (hr:(0:Int)<(u.rn:Int)) :
  Calls Tryz.prog 10 #[.agg (updC u)] w fun e w'=>e = .returned (.bool true)∧Below w.heap.size w w':=by
 have S0:=hide (UpS.start h hh)
 have Q0:Hid (UgS w (w.alloc (.cells (updC u) 33)) lo hi u):=hide ⟨S0.out,hN.below S0.out.bl⟩
 have HFT:=hide hfit
 have HOB:=hide h.ob
 clear h hfit hN S0
 go_enter Tryz.func10,Tryz.ntmps10
 go_wp2_with fail
 refine wp_region_held_drew (S:=fun z=>UgS w z lo hi u) (by kernel_rfl) Q0.out.drew (fun hHeld=>?_)
 refine rgT 0 ?_
 refine rgV 1 (.agg (attC u.at_)) (fun w' hSw=>za8 (.tmp 3) rfl w.heap.size 0 rfl hSw.s.ratt HOB.out) ?_
 refine zaf (i:=2) rfl (by kernel_rfl) (by rfl) (zcO _ lo hi u.at_ hHeld.s.at_.at_ hHeld.s.here) (fun w=>by kernel_rfl) ?_
 rw [H1.out]
 rintro e w1 ⟨rfl,hb1⟩
 refine ⟨_,rfl,hHeld.on hb1,fun hHeld=>?_⟩
 refine rgN ?_
 refine rgT 3 ?_
 refine rgT 4 ?_
 refine rgK 5 (fun w' hSw=>hSw.s.c24) ?_
 refine zaf (i:=6) rfl (by kernel_rfl) (by rfl) (zeJ zib _ lo hi u.rA u.rn u.rc u.re hHeld.s.at_.re hHeld.s.here HFT.out.re hHeld.n) (fun w=>by kernel_rfl) ?_
 rw [H2.out]
 rintro e w2 ⟨rfl,hb2⟩
 refine ⟨_,rfl,hHeld.on hb2,fun hHeld=>?_⟩
 refine rgN ?_
 refine rgT 7 ?_
 refine rgT 8 ?_
 refine rgT 9 ?_
 refine rgK 10 (fun w' hSw=>hSw.s.c25) ?_
 refine zaf (i:=11) rfl (by kernel_rfl) (by rfl) (zeJ zk0 _ lo hi u.nA u.nn u.nc u.ne hHeld.s.at_.ne hHeld.s.here HFT.out.ne hHeld.n) (fun w=>by kernel_rfl) ?_
 rw [H3.out]
 rintro e w3 ⟨rfl,hb3⟩
 refine ⟨_,rfl,hHeld.on hb3,fun hHeld=>?_⟩
 refine rgN ?_
 refine rgT 12 ?_
 refine rgT 13 ?_
 refine rgT 14 ?_
 refine rgK 15 (fun w' hSw=>hSw.s.c24) ?_
 refine rgT 16 ?_
 refine rgV 17 (.bool true) ?_ ?_
 ·(intro w' hSw;(try dsimp only at hSw);go_simp <;> first | rfl | omega)
 refine rgT 18 ?_
 refine rgS 19 ?_
 refine rgS 20 ?_
 refine rgS 21 ?_
 refine rgS 22 ?_
 refine rgT 23 ?_
 refine rgT 24 ?_
 refine rgT 25 ?_
 refine wpAnyH_done (by kernel_rfl) ?_ _
 go_wp2_with fail
 go_ret
 exact ⟨rfl,hHeld.s.bl⟩
theorem zt7 (w:World) (lo hi:Nat) (u:UpP) (h:UpAt w lo hi u) (hh:hi≤w.heap.size) (hfit:FitU u) (hN:zaQ w) (H1:Hid (zbK u.at_.ats=true)) (H2:Hid (fewT zc6 (u.re.map TbP.tb)=true)) (H3:Hid (fewT (za7 false) (u.ne.map TbP.tb)=true)) (hr:¬ (0:Int)<(u.rn:Int)) :
  Calls Tryz.prog 10 #[.agg (updC u)] w fun e w'=>e = .returned (.bool (zdl u.at_.ats zb4))∧Below w.heap.size w w':=by
 have S0:=hide (UpS.start h hh)
 have Q0:Hid (UgS w (w.alloc (.cells (updC u) 33)) lo hi u):=hide ⟨S0.out,hN.below S0.out.bl⟩
 have HFT:=hide hfit
 have HOB:=hide h.ob
 clear h hfit hN S0
 go_enter Tryz.func10,Tryz.ntmps10
 go_wp2_with fail
 refine wp_region_held_drew (S:=fun z=>UgS w z lo hi u) (by kernel_rfl) Q0.out.drew (fun hHeld=>?_)
 refine rgT 0 ?_
 refine rgV 1 (.agg (attC u.at_)) (fun w' hSw=>za8 (.tmp 3) rfl w.heap.size 0 rfl hSw.s.ratt HOB.out) ?_
 refine zaf (i:=2) rfl (by kernel_rfl) (by rfl) (zcO _ lo hi u.at_ hHeld.s.at_.at_ hHeld.s.here) (fun w=>by kernel_rfl) ?_
 rw [H1.out]
 rintro e w1 ⟨rfl,hb1⟩
 refine ⟨_,rfl,hHeld.on hb1,fun hHeld=>?_⟩
 refine rgN ?_
 refine rgT 3 ?_
 refine rgT 4 ?_
 refine rgK 5 (fun w' hSw=>hSw.s.c24) ?_
 refine zaf (i:=6) rfl (by kernel_rfl) (by rfl) (zeJ zib _ lo hi u.rA u.rn u.rc u.re hHeld.s.at_.re hHeld.s.here HFT.out.re hHeld.n) (fun w=>by kernel_rfl) ?_
 rw [H2.out]
 rintro e w2 ⟨rfl,hb2⟩
 refine ⟨_,rfl,hHeld.on hb2,fun hHeld=>?_⟩
 refine rgN ?_
 refine rgT 7 ?_
 refine rgT 8 ?_
 refine rgT 9 ?_
 refine rgK 10 (fun w' hSw=>hSw.s.c25) ?_
 refine zaf (i:=11) rfl (by kernel_rfl) (by rfl) (zeJ zk0 _ lo hi u.nA u.nn u.nc u.ne hHeld.s.at_.ne hHeld.s.here HFT.out.ne hHeld.n) (fun w=>by kernel_rfl) ?_
 rw [H3.out]
 rintro e w3 ⟨rfl,hb3⟩
 refine ⟨_,rfl,hHeld.on hb3,fun hHeld=>?_⟩
 refine rgN ?_
 refine rgT 12 ?_
 refine rgT 13 ?_
 refine rgT 14 ?_
 refine rgK 15 (fun w' hSw=>hSw.s.c24) ?_
 refine rgT 16 ?_
 refine rgV 17 (.bool false) ?_ ?_
 ·(intro w' hSw;(try dsimp only at hSw);go_simp <;> first | rfl | omega)
 refine rgT 18 ?_
 refine rgT 19 ?_
 refine rgV 20 (.agg (attC u.at_)) (fun w' hSw=>za8 (.tmp 22) rfl w.heap.size 0 rfl hSw.s.ratt HOB.out) ?_
 refine zaf (i:=21) rfl (by kernel_rfl) (by rfl) (zkS _) (fun w=>by kernel_rfl) ?_
 rintro e w4 ⟨rfl,hb4⟩
 refine ⟨_,rfl,hHeld.on hb4,fun hHeld=>?_⟩
 refine rgN ?_
 refine zaf (i:=22) rfl (by kernel_rfl) (by rfl) (zol w4 lo hi w4.heap.size w4.heap.size u.at_ zfc hHeld.s.at_.at_ (zhf _ _ _) hHeld.s.here (Nat.le_refl _) (HFT.out.at_ H1.out)) (fun w=>by kernel_rfl) ?_
 rintro e w5 ⟨rfl,hb5⟩
 refine ⟨_,rfl,hHeld.on hb5,fun hHeld=>?_⟩
 refine rgN ?_
 refine rgT 23 ?_
 refine rgT 24 ?_
 refine rgT 25 ?_
 refine wpAnyH_done (by kernel_rfl) ?_ _
 go_wp2_with fail
 go_ret
 exact ⟨by rw [zux];cases zdl u.at_.ats zb4 <;> rfl,hHeld.s.bl⟩
theorem zjW (w:World) (lo hi:Nat) (u:UpP) (h:UpAt w lo hi u) (hh:hi≤w.heap.size) (hfit:FitU u) (hN:zaQ w) :
  Calls Tryz.prog 10 #[.agg (updC u)] w fun e w'=>e = .returned (.bool (zcP u.up))∧Below w.heap.size w w':=by
 have hl:(u.re.map TbP.tb).length=u.rn:=by rw [List.length_map,h.re.len]
 have e:zcP u.up=(zbK u.at_.ats&&(fewT zc6 (u.re.map TbP.tb)&&(fewT (za7 false) (u.ne.map TbP.tb)&&(decide (0<u.rn)||zdl u.at_.ats zb4)))):=by rw [← hl];rfl
 rw [e]
 cases h1:zbK u.at_.ats
 ·exact zub w lo hi u h hh hfit hN (hide h1)
 ·cases h2:fewT zc6 (u.re.map TbP.tb)
  ·exact zua w lo hi u h hh hfit hN (hide h1) (hide h2)
  ·cases h3:fewT (za7 false) (u.ne.map TbP.tb)
   ·exact zt9 w lo hi u h hh hfit hN (hide h1) (hide h2) (hide h3)
   ·by_cases hr:0<u.rn
    ·rw [decide_eq_true hr]
     exact zt8 w lo hi u h hh hfit hN (hide h1) (hide h2) (hide h3) (by omega)
    ·rw [decide_eq_false hr]
     exact zt7 w lo hi u h hh hfit hN (hide h1) (hide h2) (hide h3) (by omega)
end
end Go.Proofs.YtookpplebikfnaaGreatDoor
