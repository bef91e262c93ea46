/-
  Read of package attr over what an update wrote: the items come back, the routes are left; and what can be said of Read whatever came (ReadI). The conditions: the program's table of kinds is in its place (Known), and the sizes that bytes can have.
  What Write of package attr does with attributes, and Few of the statements, in whatever memory. The one condition: the table of kinds holds what its text lays.
-/
import Derived.Test.YtookpplebikfnaaGreatDoorKEBH
set_option linter.unusedVariables false
set_option linter.unusedSimpArgs false
namespace Go.Proofs.YtookpplebikfnaaGreatDoor
section
open Go.RowKit
open Go.Maps (Keyed IsMap Tidy)
theorem zeY.mono {w w':World} {r m lo2:Nat} {rv:Value} {J J':Ats→List Rw→Int→Prop} {e:Ending} (h:zeY w r m lo2 rv J e w') (hJ:∀ a l o,J a l o→J' a l o):zeY w r m lo2 rv J' e w':=by
 obtain ⟨out,h1,p',rv',rs',h2,h3⟩:=h
 exact ⟨out,h1,p',rv',rs',hJ _ _ _ h2,h3⟩
theorem zqb.mono {w w':World} {J J':Ats→List Rw→Int→Prop} {e:Ending} (h:zqb w J e w') (hJ:∀ a l o,J a l o→J' a l o):zqb w J' e w':=by
 obtain ⟨p,rv,rs,out,h1,h2,h3⟩:=h
 exact ⟨p,rv,rs,out,h1,hJ _ _ _ h2,h3⟩
theorem zsv {l:List RawP} {K:Int} (h:∀ y∈l,y.k≠K):cntK K l=0:=by
 unfold cntK
 rw [List.length_eq_zero_iff,List.filter_eq_nil_iff]
 intro y hy
 simpa using h y hy
theorem zsu {l:List RawP} (hd:(l.map RawP.k).Pairwise (· ≠ ·)) {j:Nat} {x:RawP} (hx:l[j]?=some x):cntK x.k (l.take j)=0:=by
 refine zsv (fun y hy=>?_)
 have hp:=List.pairwise_map.1 hd
 rw [← List.take_append_drop j l] at hp
 have h1:=(List.pairwise_append.1 hp).2.2 y hy x (List.mem_of_getElem? (by rw [List.getElem?_drop,Nat.add_zero];exact hx))
 exact h1
theorem zri (w:World) (lo hi:Nat) (A:Option Addr) (n c:Nat) (l:List RawP) (h:zb9 w lo hi A n l) (hh:hi≤w.heap.size) (hn:n≤100000) (hkn:zc3 w) (its:List Item) (rts:List Rw) (hraws:l.map RawP.raw=its.map Item.rw++rts) (hd:(l.map RawP.k).Pairwise (· ≠ ·)) (hrt:∀ y∈rts,(y.k=14∨y.k=15)∧y.f=128) (hok:∀ i∈its,i.Ok) (hS:∀ i∈its,∀ a0,zcP i a0) (hv:∀ x∈l,x.v.length≤800000) :
  Calls Tryz.prog 30 #[.slice A n c] w (zqb w (fun a l' out=>a=zdv its zbV∧l'=rts∧out=finO l 0)):=by
 have hlen:n=its.length+rts.length:=by
  have h1:=congrArg List.length hraws
  rw [List.length_map,List.length_append,List.length_map,h.len] at h1
  exact h1
 have hat1:∀ (j:Nat) (x:RawP),l[j]?=some x→j<its.length→∃ i,its[j]?=some i∧x.raw=i.rw:=fun j x hx hj=>by
  have h1:=congrArg (fun l:List Rw=>l[j]?) hraws
  simp only [List.getElem?_map,hx,Option.map_some] at h1
  rw [List.getElem?_append_left (by rw [List.length_map];exact hj),List.getElem?_map] at h1
  obtain ⟨i,h2,h3⟩:=Option.map_eq_some_iff.1 h1.symm
  exact ⟨i,h2,h3.symm⟩
 have hat2:∀ (j:Nat) (x:RawP),l[j]?=some x→¬ j<its.length→rts[j-its.length]?=some x.raw:=fun j x hx hj=>by
  have h1:=congrArg (fun l:List Rw=>l[j]?) hraws
  simp only [List.getElem?_map,hx,Option.map_some] at h1
  rw [List.getElem?_append_right (by rw [List.length_map];omega),List.length_map] at h1
  exact h1.symm
 have key:=zm2 w lo hi A n c l h hh hn
  (fun x hx=>by
   obtain ⟨j,hj,hjx⟩:=List.getElem_of_mem hx
   have hx9:l[j]?=some x:=by rw [List.getElem?_eq_getElem hj,hjx]
   by_cases hlt:j<its.length
   ·obtain ⟨i,h1,h2⟩:=hat1 j x hx9 hlt
    have e:x.k=i.kind:=congrArg Rw.k h2
    rw [e]
    exact (zj0 i).1
   ·have h1:=(hrt _ (List.mem_of_getElem? (hat2 j x hx9 hlt))).1
    have h2:x.k=14∨x.k=15:=h1
    rcases h2 with h2 | h2 <;> rw [h2] <;> decide)
  (fun k a rest o=>a=zdv (its.take k) zbV∧rest=rts.take (k-its.length)∧o=0) ⟨rfl,by rw [Nat.zero_sub];rfl,rfl⟩
  (fun j x hx wr r m lo2 cnt D p rv rs o hI hbel hrd hmp hct hatR how hrs hlo hr _=>by
   obtain ⟨hI1,hI2,rfl⟩:=hI
   have hmem:=List.mem_of_getElem? hx
   rw [zsu hd hx] at hct
   have hjn:j<n:=by have h1:=(List.getElem?_eq_some_iff.1 hx).1;rw [h.len] at h1;exact h1
   by_cases hlt:j<its.length
   ·obtain ⟨i,h1,h2⟩:=hat1 j x hx hlt
    have himem:=List.mem_of_getElem? h1
    have hpre:zdW (zdv (its.take j) zbV):=zjL zpv (fun i hi=>hok i (List.mem_of_mem_take hi))
    have hsayR:zbK (i.say p.ats)=true:=by rw [hI1];exact (zf7 _).2 (zlA hpre (hok i himem))
    have hnext:i.say (zdv (its.take j) zbV)=zdv (its.take (j+1)) zbV:=by
     rw [List.take_add_one,h1,zca]
     rfl
    refine (zpu w lo hi A n l h hh hkn x hmem i h2 wr r m lo2 cnt D p rv rs hbel hrd hmp hct hatR how hlo hr hsayR (hS i himem _)).mono ?_
    intro e w' hg
    refine hg.mono ?_
    rintro a l' out ⟨rfl,rfl,rfl⟩
    refine ⟨⟨by rw [hI1];exact hnext,by rw [hI2,show j-its.length=0 by omega,show j+1-its.length=0 by omega],by decide⟩,?_⟩
    rw [hI2,List.length_take];omega
   ·have h1:=hat2 j x hx hlt
    obtain ⟨h2,h3⟩:=hrt _ (List.mem_of_getElem? h1)
    have hwf:(Lit.int .i64 x.k).wf=true:=by
     have h2:x.k=14∨x.k=15:=h2
     rcases h2 with h2 | h2 <;> rw [h2] <;> decide
    refine (zrN w lo hi A n l h hh hkn x hmem (hv x hmem) hwf wr r m lo2 cnt D p rv rs 0 hbel hrd hmp hct hatR how (by omega) hlo hr).mono ?_
    intro e w' hg
    refine hg.mono ?_
    intro a l' out hst
    have hkk:zeS x.raw.k=false:=by rcases h2 with h2 | h2 <;> rw [h2] <;> decide
    have hend:a=p.ats∧l'=rs.map RawP.raw++[x.raw]∧out=0:=by
     rcases hst with ⟨h4,_⟩ | ⟨_,h5,⟨h6,_⟩ | ⟨_,h6,h7⟩⟩ | ⟨_,h4,h5,_⟩
     ·rw [hkk] at h4;cases h4
     ·omega
     ·rw [if_pos h3] at h7;exact ⟨h5,h6,h7⟩
     ·omega
    obtain ⟨rfl,rfl,rfl⟩:=hend
    refine ⟨⟨?_,?_,by decide⟩,?_⟩
    ·rw [hI1,List.take_of_length_le (by omega),List.take_of_length_le (by omega)]
    ·rw [hI2,show j+1-its.length=(j-its.length)+1 by omega,List.take_add_one,h1];rfl
    ·rw [hI2,List.length_append,List.length_take];show _+1≤_;omega)
 refine key.mono ?_
 intro e w' hg
 refine hg.mono ?_
 rintro a l' out ⟨o,⟨rfl,rfl,rfl⟩,rfl⟩
 exact ⟨by rw [List.take_of_length_le (by omega)],by rw [List.take_of_length_le (by omega)],rfl⟩
section
variable {l:List RawP} {k:Nat} {a:Ats} {rest:List Rw} {o:Int}
end
end
section
open Go.RowKit
def zge (a:Ats) (k:Nat):List Item :=
 match k with
 | 0=>[.origin a.o]
 | 1=>[.path a.path]
 | 2=>if 0≤a.med then [.med a.med] else []
 | 3=>if 0≤a.pref then [.pref a.pref] else []
 | 4=>if 0<a.os then [.orig a.os a.ob] else []
 | 5=>if a.cl=[] then [] else [.clus a.cl]
 | 6=>if a.ex=[] then [] else [.exts a.ex]
 | 7=>tunI a.tn
 | _=>[]
def zkU (a:Ats):Nat→List Item
 | 0=>[]
 | k+1=>zkU a k++zge a k
theorem znl (a:Ats):zkU a 8=zcc a:=by
 show ((((((([]++zge a 0)++zge a 1)++zge a 2)++zge a 3)++zge a 4)++zge a 5)++zge a 6)++zge a 7=_
 unfold zcc zge
 simp only [List.nil_append,List.append_assoc]
 rfl
def zgw (a:Ats) (k:Nat):List Rw:=(zkU a k).map Item.rw
theorem zg5 (a:Ats):zgw a 8=zeZ a:=by unfold zgw zeZ;rw [znl]
theorem zf8 (a:Ats) (k:Nat):zgw a (k+1)=zgw a k++(zge a k).map Item.rw:=by unfold zgw;show ((zkU a k++zge a k).map Item.rw)=_;rw [List.map_append]
theorem zr8 (a:Ats) (k:Nat):(zge a k).length≤1:=by
 unfold zge
 split
 all_goals first | exact Nat.le_refl _ | (split <;> simp) | (unfold tunI;split <;> simp) | simp
theorem zfz (a:Ats):∀ k,(zgw a k).length≤k
 | 0=>Nat.le_refl _
 | k+1=>by
  have h1:=zfz a k
  have h2:=zr8 a k
  rw [zf8,List.length_append,List.length_map]
  omega
def knK (k:Nat):Int:=match k with | 0=>1 | 1=>2 | 2=>4 | 3=>5 | 4=>9 | 5=>10 | 6=>16 | _=>22
def knF (k:Nat):Int:=match k with | 0=>64 | 1=>64 | 2=>128 | 3=>64 | 4=>128 | 5=>128 | 6=>192 | _=>192
theorem zuf (w:World) {k:Nat} (h:k<8):(Instr.index 132 (.agg #[.int .i64 1,.int .i64 64,.int .i64 2,.int .i64 64,.int .i64 4,.int .i64 128,.int .i64 5,.int .i64 64,.int .i64 9,.int .i64 128,.int .i64 10,.int .i64 128,.int .i64 16,.int .i64 192,.int .i64 22,.int .i64 192]) (.int .i64 (k:Int))).run Tryz.prog w = .ok (.agg #[.int .i64 (knK k),.int .i64 (knF k)]) w:=by
 match k,h with
 | 0,_=>exact zcH w
 | 1,_=>exact zda w
 | 2,_=>exact zdx w
 | 3,_=>exact zdR w
 | 4,_=>exact zem w
 | 5,_=>exact zfd w
 | 6,_=>exact zgG w
 | 7,_=>exact ziV w
theorem val_kn (p:AtP) (hr:zdW p.ats) (k:Nat) (hk:k<8):∃ (b:List UInt8) (there:Bool),(zge p.ats k).map Item.rw=(if there then [⟨knF k,knK k,b⟩] else []) ∧
  ∀ (x:World) (lo hi:Nat),zax x lo hi p→hi≤x.heap.size→Calls Tryz.prog 74 #[.agg (attC p),.int .i64 (knK k)] x (zaP x b there):=by
 have hpth:(p.path.length≤16)∧p.path.all okS=true:=by
  have h1:=hr.path
  unfold zjR at h1
  rw [Bool.and_eq_true,decide_eq_true_eq] at h1
  obtain ⟨h2,h3⟩:=h1
  have h4:p.ats.path=p.path.map SgP.sg:=rfl
  rw [h4,List.length_map] at h2
  rw [h4,List.all_map] at h3
  exact ⟨h2,h3⟩
 have htun:(p.tl.length≤1)∧p.tl.all okT=true:=by
  obtain ⟨h2,h3⟩:=hr.tn
  have h4:p.ats.tn=p.tl.map TnP.tun:=rfl
  rw [h4,List.length_map] at h2
  rw [h4,List.all_map] at h3
  exact ⟨h2,h3⟩
 match k,hk with
 | 0,_ =>
  obtain ⟨O,hO⟩:∃ O:Nat,p.o=O:=⟨p.o.toNat,by have:=hr.o.1;have h:p.ats.o=p.o:=rfl;omega⟩
  have hO2:O≤255:=by have:=hr.o.2;have h:p.ats.o=p.o:=rfl;omega
  refine ⟨[UInt8.ofNat O],true,?_,fun x lo hi h hh=>zmA x lo hi p h hh O hO hO2⟩
  show [Item.rw (.origin p.o)]=_
  rw [hO]
  show [(⟨64,1,[UInt8.ofNat ((O:Nat):Int).toNat]⟩:Rw)]=_
  rw [Int.toNat_natCast]
  rfl
 | 1,_=>exact ⟨zdX (p.path.map SgP.sg),true,rfl,fun x lo hi h hh=>zqo x lo hi p h hh hpth.1 hpth.2⟩
 | 2,_ =>
  by_cases hm:0≤p.med
  ·exact ⟨be 4 p.med.toNat,true,by show (if 0≤p.med then [Item.med p.med] else []).map Item.rw=_;rw [if_pos hm];rfl,fun x lo hi h hh=>zmz x lo hi p h hh ⟨hm,hr.med.2⟩⟩
  ·exact ⟨be 4 p.med.toNat,false,by show (if 0≤p.med then [Item.med p.med] else []).map Item.rw=_;rw [if_neg hm];rfl,fun x lo hi h hh=>zta x lo hi p h hh (by omega)⟩
 | 3,_ =>
  by_cases hm:0≤p.pref
  ·exact ⟨be 4 p.pref.toNat,true,by show (if 0≤p.pref then [Item.pref p.pref] else []).map Item.rw=_;rw [if_pos hm];rfl,fun x lo hi h hh=>zmy x lo hi p h hh ⟨hm,hr.pref.2⟩⟩
  ·exact ⟨be 4 p.pref.toNat,false,by show (if 0≤p.pref then [Item.pref p.pref] else []).map Item.rw=_;rw [if_neg hm];rfl,fun x lo hi h hh=>zs9 x lo hi p h hh (by omega)⟩
 | 4,_ =>
  rcases hr.orig with hz | hf
  ·have hz1:p.os=0:=hz.1
   exact ⟨zar p.os p.ob,false,by show (if 0<p.os then [Item.orig p.os p.ob] else []).map Item.rw=_;rw [if_neg (by omega)];rfl,fun x lo hi h hh=>znL x lo hi p h hh hz⟩
  ·have hf4:p.os=4:=by have h1:four p.os p.ob=true:=hf;unfold four at h1;rw [Bool.and_eq_true,decide_eq_true_eq] at h1;exact h1.1
   exact ⟨zar p.os p.ob,true,by show (if 0<p.os then [Item.orig p.os p.ob] else []).map Item.rw=_;rw [if_pos (by omega)];rfl,fun x lo hi h hh=>zmx x lo hi p h hh hf⟩
 | 5,_ =>
  obtain ⟨h1,h2⟩:=hr.cl
  have e:∀ l:List (Int × List UInt8),clB l=catE fD l:=fun l=>(zp1 l).symm
  by_cases hc:p.cl=[]
  ·exact ⟨clB p.cl,false,by show (if p.cl=[] then [] else [Item.clus p.cl]).map Item.rw=_;rw [if_pos hc];rfl,fun x lo hi h hh=>zqq x lo hi p h hh h1 h2 (by rw [hc];rfl)⟩
  ·refine ⟨clB p.cl,true,by show (if p.cl=[] then [] else [Item.clus p.cl]).map Item.rw=_;rw [if_neg hc];rfl,fun x lo hi h hh=>znN x lo hi p h hh h1 h2 ?_⟩
   have hl:(clB p.cl).length=4*p.cl.length:=zi4 (fun y hy=>h.cl.sz y hy) h2
   have:0<p.cl.length:=List.length_pos_iff.2 hc
   omega
 | 6,_ =>
  by_cases hc:p.ex=[]
  ·exact ⟨za0 p.ex,false,by show (if p.ex=[] then [] else [Item.exts p.ex]).map Item.rw=_;rw [if_pos hc];rfl,fun x lo hi h hh=>zli x lo hi p h hh (by rw [hc];rfl)⟩
  ·exact ⟨za0 p.ex,true,by show (if p.ex=[] then [] else [Item.exts p.ex]).map Item.rw=_;rw [if_neg hc];rfl,fun x lo hi h hh=>znM x lo hi p h hh hr.ex (List.length_pos_iff.2 hc)⟩
 | 7,_ =>
  cases ht:p.tl with
  | nil =>
   refine ⟨catE fT p.tl,false,?_,fun x lo hi h hh=>zqn x lo hi p h hh htun.1 htun.2 (by rw [ht];rfl)⟩
   show (tunI (p.tl.map TnP.tun)).map Item.rw=_
   rw [ht]
   rfl
  | cons t r =>
   have hr0:r=[]:=by
    have h1:=htun.1
    rw [ht] at h1
    exact List.eq_nil_of_length_eq_zero (by have h2:r.length+1≤1:=h1;omega)
   subst hr0
   refine ⟨catE fT p.tl,true,?_,fun x lo hi h hh=>zkj x lo hi p h hh htun.1 htun.2 ?_⟩
   ·show (tunI (p.tl.map TnP.tun)).map Item.rw=_
    rw [ht]
    show [(⟨192,22,zb7 t.tun⟩:Rw)]=[⟨192,22,fT t++[]⟩]
    rw [List.append_nil]
    rfl
   ·rw [ht]
    show 0<(fT t++[]).length
    unfold fT zb7 zlZ
    simp
theorem AtS.grown {w x y:World} {lo hi:Nat} {p:AtP} (h:AtS w x lo hi p) {row:Option Nat} (hg:x.grownBy y row) (hr:∀ g,row=some g→w.heap.size<g):AtS w y lo hi p :=
 ⟨h.b.grown hg (fun e=>by have:=hr _ e.symm;omega),h.at_.grown hg h.hx (fun g e=>.inr (by have:=hr g e;have:=h.hh;omega)),h.bl.grown hg h.bl.size (fun g e=>by have:=hr g e;omega),h.hh⟩
def zs1 (w:World) (a:Ats) (e:Ending) (w':World):Prop :=
 ∃ v xs,e = .returned (.tuple #[v,.int .i64 0])∧zaw w' w.heap.size 89 5 v xs∧xs.map RawP.raw=zeZ a∧Below w.heap.size w w'
set_option maxRecDepth 20000 in
set_option maxHeartbeats 6000000 in
theorem zqd (w:World) (lo hi:Nat) (p:AtP) (h:zax w lo hi p) (hh:hi≤w.heap.size) (hkn:zc3 w) (hr:zbK p.ats=true) :
  Calls Tryz.prog 41 #[.agg (attC p)] w (zs1 w p.ats):=by
 have hra:=(zf7 p.ats).1 hr
 have HVAL:=hide (val_kn p hra)
 have S0:=hide (AtS.start h hh)
 have HOB:=h.ob
 have RN0:=hide (zah (l:=attL p) S0.out.b)
 have KN0:=hide (hkn.below ((Below.refl w.heap.size w).alloc (Nat.le_refl _) (.cells (attC p) 30)))
 have HR:=hide hr
 have hsz0:(w.alloc (.cells (attC p) 30)).heap.size=w.heap.size+1:=by simp
 clear h hkn hr hra
 go_enter Tryz.func41,Tryz.ntmps41
 go_wp2_with ((with_reducible refine zaB ?_ (.tmp 1) rfl w.heap.size 0 rfl RN0.out HOB ?_);· rfl)
 generalize w.alloc (.cells (attC p) 30)=w0 at *
 refine (zcQ w0 lo hi p S0.out.at_ S0.out.hx).mono ?_
 rw [HR.out]
 rintro e w1 ⟨rfl,hb1⟩
 have S1:=hide (S0.out.on hb1)
 have KN1:=hide (KN0.out.below hb1)
 have hz1:=hb1.size
 clear hb1 S0 RN0 KN0
 obtain ⟨base,hbase⟩:∃ base,w1.heap.size=base:=⟨_,rfl⟩
 have hbw:w.heap.size<base:=by omega
 have HBS:=hide hbase
 clear hbase
 go_wp2_with (with_reducible refine zbh rfl (.global 0) rfl rfl KN1.out ?_)
 go_loopw [4,13] (fun v i wr=>∃ (k q c:Nat) (B:Option Addr) (xs:List RawP),k≤8∧v = .slice B q c∧i = .int .i64 k∧xs.length=q∧zaw wr base 89 5 (.slice B q c) xs∧xs.map RawP.raw=zgw p.ats k∧AtS w wr lo hi p∧base≤wr.heap.size) (fun _ i _=>8-(intOf i).toNat)
 case atStart=>exact ⟨0,0,0,none,[],by decide,rfl,rfl,rfl,zaw.nil _ _ _ _,rfl,S1.out,by rw [HBS.out];exact Nat.le_refl _⟩
 case round =>
  obtain ⟨k,q,c,B,xs,hk,rfl,rfl,hql,hown,hraws,hst,hbz⟩:=hrel
  have HO:=hide hown
  have HRW:=hide hraws
  have ST:=hide hst
  have HQL:=hide hql
  have hq8:q≤8:=by have h1:=zfz p.ats k;rw [← hraws,List.length_map,hql] at h1;omega
  clear hown hraws hst hql
  by_cases hlt:k<8
  ·have hkl:((k:Nat):Int)<8:=by omega
   have qk:=fun (x:World)=>zuf x hlt
   obtain ⟨b,there,hit,hval⟩:=HVAL.out k hlt
   obtain ⟨K,hK⟩:∃ K,knK k=K:=⟨_,rfl⟩
   obtain ⟨F,hF⟩:∃ F,knF k=F:=⟨_,rfl⟩
   rw [hK,hF] at qk hit
   rw [hK] at hval
   have HIT:=hide hit
   have HVL:=hide hval
   clear hit hval hK hF
   have RNr:=hide (zah (l:=attL p) ST.out.b)
   have B9:Hid (Below wr.heap.size wr (wr.alloc (.cells #[.int .i64 K,.int .i64 F] 131))):=hide ((Below.refl _ _).alloc (Nat.le_refl _) _)
   have c90:(wr.alloc (.cells #[.int .i64 K,.int .i64 F] 131)).cell? ⟨wr.heap.size,0,none⟩=some (.int .i64 K):=(Blk.new wr _ _).cell 0
   have c91:(wr.alloc (.cells #[.int .i64 K,.int .i64 F] 131)).cell? ⟨wr.heap.size,1,none⟩=some (.int .i64 F):=(Blk.new wr _ _).cell 1
   have RN9:=hide (zah (l:=attL p) (ST.out.b.over B9.out))
   go_wp2_with ((with_reducible refine zaB ?_ (.tmp 1) rfl w.heap.size 0 rfl RN9.out HOB ?_);· rfl)
   have S9:=hide (ST.out.on B9.out)
   have HO9:=hide (HO.out.over B9.out)
   have KB9:=hide (Blk.new wr 131 #[.int .i64 K,.int .i64 F])
   have hz9:=B9.out.size
   have HNB:Hid (∀ j,zfm (.slice B q c) xs j→j<wr.heap.size):=hide (fun j hj=>(HO.out.lt j hj).2)
   clear RNr RN9 B9 ST HO c90 c91 qk
   generalize (wr.alloc (.cells #[.int .i64 K,.int .i64 F] 131))=w9 at *
   refine (HVL.out w9 lo hi S9.out.at_ S9.out.hx).mono ?_
   rintro e w2 ⟨v2,rfl,ho2,hb2⟩
   have S2:=hide (S9.out.on hb2)
   have HO2:=hide (HO9.out.over hb2)
   have KB2:=hide (KB9.out.over hb2)
   have hz2:=hb2.size
   clear hb2 S9 HO9 KB9
   cases there
   ·have hnx:xs.map RawP.raw=zgw p.ats (k+1):=by rw [zf8,HIT.out,HRW.out];simp
    have HNX:=hide hnx
    clear hnx ho2
    go_wp2_with fail
    go_roundw
    case rel=>exact ⟨k+1,q,c,B,xs,by omega,rfl,by go_num,HQL.out,HO2.out,HNX.out,S2.out,by omega⟩
    case measure=>simp [intOf];omega
   ·have OX2:=hide (ho2 rfl)
    obtain ⟨A2,c2,rfl,_,_⟩:=zad (ho2 rfl)
    have HW4:Hid (Below w2.heap.size w2 (w2.alloc (.cells (rawC ⟨F,K,A2,b.length,c2,b⟩) 89))):=hide ((Below.refl _ _).alloc (Nat.le_refl _) _)
    obtain ⟨v5,w5,hrun,ho5,hg5,hat5⟩:=zgx (w2.alloc (.cells (rawC ⟨F,K,A2,b.length,c2,b⟩) 89)) base 59 (.slice B q c) xs (HO2.out.over HW4.out) ⟨F,K,A2,b.length,c2,b⟩ (zb1 (za6 OX2.out HW4.out) (by omega)) (fun j hj hbk=>by have h1:=HNB.out j hbk;have h2:=(OX2.out.lt j hj).1;omega) _ _ _ 1 (AtG.one (Blk.new w2 89 (rawC ⟨F,K,A2,b.length,c2,b⟩))) (by rw [HQL.out];omega) (Nat.le_trans (by omega) HW4.out.size)
    have HRUN:=hide hrun
    have HO5:=hide ho5
    have S5:=hide ((S2.out.on HW4.out).grown hg5 (fun g e=>by have:=(HO2.out.lt g (.inl e)).1;omega))
    have hz5:=Nat.le_trans HW4.out.size hg5.size
    have hnx:(xs++[(⟨F,K,A2,b.length,c2,b⟩:RawP)]).map RawP.raw=zgw p.ats (k+1):=by rw [zf8,HIT.out,← HRW.out,List.map_append];rfl
    have HNX:=hide hnx
    have k0:w2.cell? ⟨wr.heap.size,0,none⟩=some (.int .i64 K):=KB2.out.cell 0
    have k1:w2.cell? ⟨wr.heap.size,1,none⟩=some (.int .i64 F):=KB2.out.cell 1
    clear hrun ho5 hg5 hat5 hnx ho2 HO2 OX2 S2 HNB KB2
    go_wp2_with (first
     | (with_reducible refine zcA rfl (.tmp 30) rfl ⟨F,K,A2,b.length,c2,b⟩ rfl ?_)
     | (at_builtin;refine zaS rfl (.tmp 24) (.tmp 31) 59 59 59 rfl rfl rfl rfl HRUN.out ?_;refine Hid.out ?_))
    refine hide ?_
    obtain ⟨B5,c5,rfl,_,_⟩:=HO5.out.shape
    go_wp2
    go_roundw
    case rel=>exact ⟨k+1,q+1,c5,B5,_,by omega,by rw [List.length_append,HQL.out];rfl,by go_num,by rw [List.length_append,HQL.out];rfl,by have:=HO5.out;rw [List.length_append,HQL.out] at this;exact this,HNX.out,S5.out,by omega⟩
    case measure=>simp [intOf];omega
  ·obtain rfl:k=8:=by omega
   go_wp2
   go_ret2
   exact ⟨.slice B q c,xs,rfl,HO.out.more (by omega),by rw [HRW.out,zg5],ST.out.bl⟩
end
end Go.Proofs.YtookpplebikfnaaGreatDoor
