/-
  How an update that comes in is opened, with its sizes: all of it fits memory. No condition.
  Read of package attr over what an update wrote: the items come back, the routes are left; and what can be said of Read whatever came (ReadI). The conditions: the program's table of kinds is in its place (Known), and the sizes that bytes can have.
  What Write of package attr does with attributes, and Few of the statements, in whatever memory. The one condition: the table of kinds holds what its text lays.
-/
import Derived.Test.YtookpplebikfnaaGreatDoorKHBM
set_option linter.unusedVariables false
set_option linter.unusedSimpArgs false
namespace Go.Proofs.YtookpplebikfnaaGreatDoor
section
set_option maxRecDepth 100000
open Go.RowKit Go.ChangeShapes Go.WideShapes Go.ChangeAt
def zeU {H:Type} (P:Program) (t:TypeId) (d:DataW H):Prop:=∀ n∈d.weights P t,n≤140737488351232
theorem zhm {H:Type} {P:Program} {e:TypeId}:∀ {ds:List (DataW H)} {d:DataW H},d∈ds→∀ n∈d.weights P e,n∈DataW.weightsAll P e ds
 | d0::ds,d,h,n,hn=>by
  simp only [DataW.weightsAll,List.mem_append]
  rcases List.mem_cons.1 h with rfl | h
  ·exact .inl hn
  ·exact .inr (zhm h n hn)
 | [],_,h,_,_=>by cases h
theorem zeU.arg {H:Type} {P:Program} {ts:List TypeId} {ds:List (DataW H)} {j:Nat} {t:TypeId} {d:DataW H} (hsz:(DataW.weightsEach P ts ds).all (· ≤ reachBytes)=true) (hts:ts[j]?=some t) (hds:ds[j]?=some d):zeU P t d:=by
 intro n hn
 have h9:=of_decide_eq_true (List.all_eq_true.1 hsz _ (DataW.weights_mem_each hts hds _ hn))
 simpa [reachBytes] using h9
theorem zeU.field {H:Type} {P:Program} {t:TypeId} {fs:Array Field} {xs:List (DataW H)} (ht:P.underlying t=some (.struct fs)) (h:zeU P t (.agg xs)) {j:Nat} {f:Field} {d:DataW H} (hf:fs[j]?=some f) (hd:xs[j]?=some d):zeU P f.type d:=by
 intro n hn
 refine h n ?_
 simp only [DataW.weights,ht]
 refine DataW.weights_mem_each (j:=j) ?_ hd n hn
 rw [List.getElem?_map,Array.getElem?_toList,hf]
 rfl
theorem zqw {n:Int} (h:(Lit.int .u8 n).wf=true):∃ g:UInt8,n=(g.toNat:Int):=by
 obtain ⟨h0,h1⟩:=zki h
 refine ⟨UInt8.ofNat n.toNat,?_⟩
 have:(UInt8.ofNat n.toNat).toNat=n.toNat:=by simp;omega
 omega
theorem zgx {H α:Type} [Inhabited α] {ec:TypeId × Value→H} {P:Program} {enc:α→List Value} {m:World→Nat→Nat→α→Prop} {W V:α→Prop} {w:World} {t e:TypeId} {K S:Nat} (hK:0<K)
  (ht:P.underlying t=some (.slice e)) (ce:P.cellsOf e=K) (hS:P.bytesOf e=S) (hone:∀ x,W x→(enc x).length=K)
  (step:∀ fuel l y,DataW.trod ec P w 0 (fun _=>true) true fuel e l=some y→zeU P e y.1→∃ q,l=enc q∧m w 0 w.heap.size q∧W q∧V q)
  {fuel:Nat} {v:Value} {y:DataW H × List MemPlace} (hf:DataW.trod ec P w 0 (fun _=>true) true fuel t [v]=some y) (hB:zeU P t y.1) :
  ∃ A n c xs,v = .slice A n c∧RowE enc m W w 0 w.heap.size A n xs∧(∀ x∈xs,V x)∧n≤c∧c≤maxLen∧n*S≤140737488351232:=by
 have hone2:∀ x,(W x∧V x)→(enc x).length=K:=fun x hx=>hone x hx.1
 rcases Go.Deep.open_slice ht hf with ⟨hcs,_⟩ | ⟨a,n,c,m',k,D,Pl,hcs,hb,hl,hm,hmm,hxd,hx⟩
 ·injection hcs with hcs
  exact ⟨none,0,0,[],hcs,RowE.nil _ _ _ _,(fun x hx=>by cases hx),by omega,by omega,by omega⟩
 ·have hB':zeU P t (.slice ((List.range n).map D) ((List.range (m'-n)).map fun j=>D (n+j))):=by rw [hxd] at hB;exact hB
  have hD:∀ i,i<n→zeU P e (D i):=fun i hi q hq=>by
   refine hB' q ?_
   simp only [DataW.weights,ht,List.mem_cons,List.mem_append]
   exact .inr (.inl (zhm (List.mem_map.2 ⟨i,List.mem_range.2 hi,rfl⟩) _ hq))
  have hN:n*S≤140737488351232:=by
   have h1:=hB' ((((List.range n).map D).length+((List.range (m'-n)).map fun j=>D (n+j)).length)*P.bytesOf e) (by simp only [DataW.weights,ht];exact List.mem_cons_self)
   rw [hS,List.length_map,List.length_range] at h1
   exact Nat.le_trans (Nat.mul_le_mul_right S (Nat.le_add_right n _)) h1
  have step':∀ i,i<n→∀ fuel l p,DataW.trod ec P w 0 (fun _=>true) true fuel e l=some (D i,p)→∃ q,l=enc q∧m w 0 w.heap.size q∧W q∧V q:=fun i hi fuel l p h=>step fuel l _ h (hD i hi)
  injection hcs with hcs
  simp only [if_true] at hmm
  have each:∀ i,i<n→∃ q:α,(m w 0 w.heap.size q∧(W q∧V q))∧∀ j u,(enc q)[j]?=some u→w.cell? (a.add (i*K+j))=some u:=by
   intro i hi
   obtain ⟨cs',h1,h2⟩:=hx i (by omega)
   rw [ce] at h1
   obtain ⟨_,hlen,hcell⟩:=World.cells?_some h1
   obtain ⟨q,hq,hw,hn⟩:=step' i hi _ _ _ h2
   refine ⟨q,⟨hw,hn⟩,fun j u hu=>?_⟩
   have hj:j<K:=by have h3:=(List.getElem?_eq_some_iff.1 hu).1;rw [hone2 q hn] at h3;exact h3
   have hc:=hcell j hj
   rw [hq] at hc
   rw [Go.Deep.add_add] at hc
   rw [hc]
   exact hu
  obtain ⟨q,hq⟩:=Go.Deep.choose_lt each
  refine ⟨some a,n,c,(List.range n).map q,hcs,⟨?_,?_,?_⟩,?_,hl,hm,hN⟩
  ·have hlen:((List.range n).map q).length=n:=by simp
   have hone':∀ x∈(List.range n).map q,(enc x).length=K:=fun x hx=>by
    obtain ⟨i,hi,rfl⟩:=List.mem_map.1 hx
    exact hone2 _ (hq i (List.mem_range.1 hi)).1.2
   refine ⟨hlen,fun hn=>?_⟩
   obtain ⟨b,o,spot⟩:=a
   have hl0:0<(enc (q 0)).length:=by rw [hone2 _ (hq 0 (by omega)).1.2];exact hK
   have h00:=(hq 0 (by omega)).2 0 _ (List.getElem?_eq_getElem hl0)
   have hspot:spot=none:=by simpa [Addr.add] using World.cell?_spot h00
   subst hspot
   have hbl:b<w.heap.size:=by have:=block_lt_of_cell h00;simpa [Addr.add] using this
   refine ⟨b,o,rfl,Nat.zero_le _,hbl,fun j u hu=>?_⟩
   have hj:j<n*K:=by have:=(List.getElem?_eq_some_iff.1 hu).1;rw [zfc hone',hlen] at this;exact this
   have hi:j/K<n:=Nat.div_lt_of_lt_mul (by rw [Nat.mul_comm];exact hj)
   have hr0:j%K<K:=Nat.mod_lt _ hK
   have hdm:j/K*K+j%K=j:=by rw [Nat.mul_comm];exact Nat.div_add_mod j K
   have hgi:((List.range n).map q)[j/K]?=some (q (j/K)):=by
    rw [List.getElem?_map,List.getElem?_range hi];rfl
   have hr:j%K<(enc (q (j/K))).length:=by rw [hone2 _ (hq _ hi).1.2];exact hr0
   have hg:=zgE hone' hgi (List.getElem?_eq_getElem hr)
   rw [hdm,hu] at hg
   have hq':=(hq (j/K) hi).2 (j%K) u (by rw [List.getElem?_eq_getElem hr];exact hg.symm)
   rw [zcE,hdm] at hq'
   exact hq'
  ·intro u hu
   obtain ⟨i,hi,rfl⟩:=List.mem_map.1 hu
   exact (hq i (List.mem_range.1 hi)).1.1
  ·intro u hu
   obtain ⟨i,hi,rfl⟩:=List.mem_map.1 hu
   exact (hq i (List.mem_range.1 hi)).1.2.1
  ·intro u hu
   obtain ⟨i,hi,rfl⟩:=List.mem_map.1 hu
   exact (hq i (List.mem_range.1 hi)).1.2.2
theorem zpw {H:Type} {enc:TypeId × Value→H} {w:World} {fuel:Nat} {l:List Value} {x:DataW H × List MemPlace} (h:DataW.trod enc Tryz.prog w 0 (fun _=>true) true fuel 86 l=some x) (hB:zeU Tryz.prog 86 x.1) :
  ∃ m:Mr,l=mroL m∧m.W∧m.key.length≤140737488351232:=by
 obtain ⟨m,rfl,hm⟩:=zrS h
 refine ⟨m,rfl,hm,?_⟩
 obtain ⟨xs,n,_,hx,hl,hlen,hfs⟩:=DataW.trod_struct Tryz.underlying86 h
 match xs,hlen with
 | [y0,y1,y2,y3,y4,y5,y6],_ =>
  have g6:=hfs 6 _ rfl
  have cs1:Tryz.prog.cellsOf 9=1:=by kernel_rfl
  have e6:DataW.trod enc Tryz.prog w 0 (fun _=>true) true n 9 (((mroL m).drop 61).take 1)=some y6:=by rw [← cs1];exact g6
  obtain ⟨ky,hky,hx6,_⟩:=DataW.trod_string Tryz.underlying9 e6
  rw [hx] at hB
  have f6:zeU Tryz.prog 9 y6.1:=hB.field (j:=6) Tryz.underlying86 rfl rfl
  have h6:=f6 ky.data.toList.length (by rw [hx6];simp [DataW.weights])
  have h61:=zg9 hm
  unfold mroC at h61
  rw [List.getElem?_toArray] at h61
  have e:(mroL m)[61]?=some (.string ky):=by
   have h:=congrArg (fun l:List Value=>l[0]?) hky
   simpa [List.getElem?_take,List.getElem?_drop] using h
  rw [h61] at e
  injection e with e
  injection e with e
  rw [← e] at h6
  simpa using h6
theorem zlq {H:Type} {enc:TypeId × Value→H} {w:World} {fuel:Nat} {l:List Value} {x:DataW H × List MemPlace} (h:DataW.trod enc Tryz.prog w 0 (fun _=>true) true fuel 53 l=some x) (hB:zeU Tryz.prog 53 x.1) :
  ∃ q:TbP,l=tbL q∧mTb w 0 w.heap.size q∧wTb q∧FitT q:=by
 obtain ⟨xs,n,_,hx,hl,hlen,hfs⟩:=DataW.trod_struct Tryz.underlying53 h
 match xs,hlen with
 | [y0,y1,y2,y3,y4],_ =>
  have g0:=hfs 0 _ rfl
  have g1:=hfs 1 _ rfl
  have g2:=hfs 2 _ rfl
  have g3:=hfs 3 _ rfl
  have g4:=hfs 4 _ rfl
  have ci:Tryz.prog.cellsOf 3=1:=by kernel_rfl
  have ca:Tryz.prog.cellsOf 25=17:=by kernel_rfl
  have cm:Tryz.prog.cellsOf 50=1:=by kernel_rfl
  have cu:Tryz.prog.cellsOf 51=1:=by kernel_rfl
  have e0:DataW.trod enc Tryz.prog w 0 (fun _=>true) true n 3 ((l.drop 0).take 1)=some y0:=by rw [← ci];exact g0
  have e1:DataW.trod enc Tryz.prog w 0 (fun _=>true) true n 3 ((l.drop 1).take 1)=some y1:=by rw [← ci];exact g1
  have e2:DataW.trod enc Tryz.prog w 0 (fun _=>true) true n 25 ((l.drop 2).take 17)=some y2:=by rw [← ca];exact g2
  have e3:DataW.trod enc Tryz.prog w 0 (fun _=>true) true n 50 ((l.drop 19).take 1)=some y3:=by rw [← cm];exact g3
  have e4:DataW.trod enc Tryz.prog w 0 (fun _=>true) true n 51 ((l.drop 20).take 1)=some y4:=by rw [← cu];exact g4
  have hll:l.length=21:=hl.trans (by kernel_rfl)
  have one:∀ k,k<21→∃ v,(l.drop k).take 1=[v]:=fun k hk=>by
   have hlen:((l.drop k).take 1).length=1:=by rw [List.length_take,List.length_drop,hll];omega
   match (l.drop k).take 1,hlen with
   | [v],_=>exact ⟨v,rfl⟩
  obtain ⟨s,hs0,_,_⟩:=DataW.trod_int Tryz.underlying3 e0
  obtain ⟨f,hf0,_,_⟩:=DataW.trod_int Tryz.underlying3 e1
  obtain ⟨ns,nb,hn0,hbl,_⟩:=zcU e2
  obtain ⟨v3,hv3⟩:=one 19 (by decide)
  obtain ⟨v4,hv4⟩:=one 20 (by decide)
  rw [hv3] at e3
  rw [hv4] at e4
  rw [hx] at hB
  have f3:zeU Tryz.prog 50 y3.1:=hB.field (j:=3) Tryz.underlying53 rfl rfl
  have f4:zeU Tryz.prog 51 y4.1:=hB.field (j:=4) Tryz.underlying53 rfl rfl
  have hcs:l = .int .i64 s :: .int .i64 f::((.int .i64 ns::bvs nb)++[v3,v4]):=by
   have d20:(l.drop 20).take 1=l.drop 20:=List.take_of_length_le (by rw [List.length_drop,hll];decide)
   have a19:l.drop 19=(l.drop 19).take 1++l.drop 20:=by
    conv=>lhs;rw [← List.take_append_drop 1 (l.drop 19),List.drop_drop]
   have a2:l.drop 2=(l.drop 2).take 17++l.drop 19:=by
    conv=>lhs;rw [← List.take_append_drop 17 (l.drop 2),List.drop_drop]
   have a1:l.drop 1=(l.drop 1).take 1++l.drop 2:=by
    conv=>lhs;rw [← List.take_append_drop 1 (l.drop 1),List.drop_drop]
   have a0:l=(l.drop 0).take 1++l.drop 1:=by rw [List.drop_zero,List.take_append_drop]
   rw [a0,a1,a2,a19,← d20,hs0,hf0,hn0,hv3,hv4]
   rfl
  obtain ⟨mA,mn,mc,ms,rfl,hm,hkey,hmn,_,hmz⟩:=zgx (α:=Mr) (enc:=mroL) (m:=fun _ _ _ _=>True) (W:=Mr.W) (V:=fun m=>m.key.length≤140737488351232) (K:=62) (S:=112) (by decide) Tryz.underlying50 (by kernel_rfl) (by kernel_rfl) (fun x hx=>zdC hx)
   (fun fuel l y h hf=>by obtain ⟨m,h1,h2,h3⟩:=zpw h hf;exact ⟨m,h1,trivial,h2,h3⟩) e3 f3
  obtain ⟨uA,un,uc,us,rfl,hu,_,hun,_,huz⟩:=zgx (α:=Ur) (enc:=uroL) (m:=fun _ _ _ _=>True) (W:=Ur.W) (V:=fun _=>True) (K:=27) (S:=48) (by decide) Tryz.underlying51 (by kernel_rfl) (by kernel_rfl) (fun x hx=>zdX hx)
   (fun fuel l y h _=>by obtain ⟨m,h1,h2⟩:=zqs h;exact ⟨m,h1,trivial,h2,trivial⟩) e4 f4
  exact ⟨⟨s,f,ns,nb,mA,mn,mc,ms,uA,un,uc,us⟩,hcs,⟨hm.row,hu.row,hmn,hun⟩,⟨hbl,hm.sz,hu.sz⟩,⟨(by show mn≤1260000000000;omega),(by show un≤3000000000000;omega),hkey⟩⟩
theorem zlR {H:Type} {enc:TypeId × Value→H} {w:World} {v:Value} {d:DataW H} {p:List MemPlace} {base:Nat}
  (hv:Value.okWide Tryz.prog w .any base 33 v) (h:DataW.Trod enc Tryz.prog w 0 (fun _=>true) true 33 v d p) (hB:zeU Tryz.prog 33 d) :
  ∃ q:UpP,v = .agg (updC q)∧UpAt w 0 w.heap.size q∧FewS q∧FitU q:=by
 obtain ⟨cs,rfl,hsz0⟩:=okWide_struct Tryz.underlying33 hv
 obtain ⟨fuel,hf⟩:=h
 have hf':DataW.trod enc Tryz.prog w 0 (fun _=>true) true fuel 33 cs.toList=some (d,p):=hf
 obtain ⟨xs,n,_,hx,hl,hlen,hfs⟩:=DataW.trod_struct Tryz.underlying33 hf'
 generalize hcl:cs.toList=l at *
 match xs,hlen with
 | [y0,y1,y2],_ =>
  have g0:=hfs 0 _ rfl
  have g1:=hfs 1 _ rfl
  have g2:=hfs 2 _ rfl
  have ca:Tryz.prog.cellsOf 30=24:=by kernel_rfl
  have ct:Tryz.prog.cellsOf 31=1:=by kernel_rfl
  have e0:DataW.trod enc Tryz.prog w 0 (fun _=>true) true n 30 ((l.drop 0).take 24)=some y0:=by rw [← ca];exact g0
  have e1:DataW.trod enc Tryz.prog w 0 (fun _=>true) true n 31 ((l.drop 24).take 1)=some y1:=by rw [← ct];exact g1
  have e2:DataW.trod enc Tryz.prog w 0 (fun _=>true) true n 31 ((l.drop 25).take 1)=some y2:=by rw [← ct];exact g2
  have hll:l.length=26:=hl.trans (by kernel_rfl)
  have one:∀ k,k<26→∃ v,(l.drop k).take 1=[v]:=fun k hk=>by
   have hlen:((l.drop k).take 1).length=1:=by rw [List.length_take,List.length_drop,hll];omega
   match (l.drop k).take 1,hlen with
   | [v],_=>exact ⟨v,rfl⟩
  obtain ⟨a,ha,hat,hpc,htc⟩:=zsL e0
  obtain ⟨v1,hv1⟩:=one 24 (by decide)
  obtain ⟨v2,hv2⟩:=one 25 (by decide)
  rw [hv1] at e1
  rw [hv2] at e2
  obtain ⟨rfl,_⟩:=Prod.mk.inj hx
  have f1:zeU Tryz.prog 31 y1.1:=hB.field (j:=1) Tryz.underlying33 rfl rfl
  have f2:zeU Tryz.prog 31 y2.1:=hB.field (j:=2) Tryz.underlying33 rfl rfl
  have hcs:l=attL a++[v1,v2]:=by
   have d25:(l.drop 25).take 1=l.drop 25:=List.take_of_length_le (by rw [List.length_drop,hll];decide)
   have a24:l.drop 24=(l.drop 24).take 1++l.drop 25:=by
    conv=>lhs;rw [← List.take_append_drop 1 (l.drop 24),List.drop_drop]
   have a0:l=(l.drop 0).take 24++l.drop 24:=by rw [List.drop_zero,List.take_append_drop]
   rw [a0,a24,← d25,ha,hv1,hv2]
   rfl
  obtain ⟨rA,rn,rc,re,rfl,hr,hrf,hrn,hrc,_⟩:=zgx (α:=TbP) (enc:=tbL) (m:=mTb) (W:=wTb) (V:=FitT) (K:=21) (by decide) Tryz.underlying31 (by kernel_rfl) rfl (fun x hx=>zgm hx) (fun fuel l y h hf=>zlq h hf) e1 f1
  obtain ⟨nA,nn,nc,ne,rfl,hn,hnf,hnn,hnc,_⟩:=zgx (α:=TbP) (enc:=tbL) (m:=mTb) (W:=wTb) (V:=FitT) (K:=21) (by decide) Tryz.underlying31 (by kernel_rfl) rfl (fun x hx=>zgm hx) (fun fuel l y h hf=>zlq h hf) e2 f2
  refine ⟨⟨a,rA,rn,rc,re,nA,nn,nc,ne⟩,?_,⟨hat,hr,hn,hrn,hnn⟩,⟨Nat.le_trans hat.pc hpc,Nat.le_trans hat.tc htc,Nat.le_trans hrn hrc,Nat.le_trans hnn hnc⟩,⟨fun h9=>zpd hat h9,hrf,hnf⟩⟩
  unfold updC
  show Value.agg cs = .agg (updL ⟨a,rA,rn,rc,re,nA,nn,nc,ne⟩).toArray
  unfold updL
  rw [← hcs,← hcl]
end
section
open Go.RowKit
open Go.Maps (Keyed IsMap Tidy)
theorem zfG.mono {w w':World} {r m lo2:Nat} {rv:Value} {J J':Ats→List Rw→Int→Prop} {e:Ending} (h:zfG w r m lo2 rv J e w') (hJ:∀ a l o,J a l o→J' a l o):zfG w r m lo2 rv J' e w':=by
 obtain ⟨out,h1,p',rv',rs',h2,h3⟩:=h
 exact ⟨out,h1,p',rv',rs',hJ _ _ _ h2,h3⟩
theorem zjc.mono {w w':World} {J J':Ats→List Rw→Int→Prop} {e:Ending} (h:zjc w J e w') (hJ:∀ a l o,J a l o→J' a l o):zjc w J' e w':=by
 obtain ⟨p,rv,rs,out,h1,h2,h3⟩:=h
 exact ⟨p,rv,rs,out,h1,hJ _ _ _ h2,h3⟩
theorem zsv {l:List RawP} {K:Int} (h:∀ y∈l,y.k≠K):cntK K l=0:=by
 unfold cntK
 rw [List.length_eq_zero_iff,List.filter_eq_nil_iff]
 intro y hy
 simpa using h y hy
theorem zsu {l:List RawP} (hd:(l.map RawP.k).Pairwise (· ≠ ·)) {j:Nat} {x:RawP} (hx:l[j]?=some x):cntK x.k (l.take j)=0:=by
 refine zsv (fun y hy=>?_)
 have hp:=List.pairwise_map.1 hd
 rw [← List.take_append_drop j l] at hp
 have h1:=(List.pairwise_append.1 hp).2.2 y hy x (List.mem_of_getElem? (by rw [List.getElem?_drop,Nat.add_zero];exact hx))
 exact h1
section
variable {l:List RawP} {k:Nat} {a:Ats} {rest:List Rw} {o:Int}
theorem zjE.held (hk:∀ x∈l,zcj x.k=true∨((x.k=14∨x.k=15)∧x.f=128)) (hd:(l.map RawP.k).Pairwise (· ≠ ·)) (h:zjE l k a rest o):o≤2∧rest=((l.take k).filter (fun x=>!zcj x.k)).map RawP.raw:=by
 induction h with
 | start=>exact ⟨by decide,rfl⟩
 | step _ hx hst ih =>
  rename_i k x a a' rest rest' o out _
  obtain ⟨i1,i2⟩:=ih
  rw [zsu hd hx] at hst
  have hx9:=hk x (List.mem_of_getElem? hx)
  rw [List.take_add_one,hx,List.filter_append,List.map_append,← i2]
  have hxk:x.raw.k=x.k:=rfl
  by_cases e:zcj x.k=true
  ·have hf:((some x).toList.filter (fun x=>!zcj x.k)).map RawP.raw=[]:=by simp [e]
   rw [hf,List.append_nil]
   rcases hst with ⟨_,h4,⟨h5,_⟩ | ⟨_,⟨_,h5⟩ | ⟨h5,_⟩⟩⟩ | ⟨h5,_⟩ | ⟨h4,_⟩
   ·omega
   ·exact ⟨by omega,h4⟩
   ·exact ⟨by omega,h4⟩
   ·rw [hxk] at h5
    have:=of_decide_eq_true e
    omega
   ·rw [hxk,e] at h4;cases h4
  ·have e':zcj x.k=false:=by cases hq:zcj x.k;exact rfl;exact absurd hq e
   have hf:((some x).toList.filter (fun x=>!zcj x.k)).map RawP.raw=[x.raw]:=by simp [e']
   rw [hf]
   rcases hx9 with h9 | ⟨h9,h10⟩
   ·exact absurd h9 e
   ·rcases hst with ⟨h4,_⟩ | ⟨_,_,⟨h5,_⟩ | ⟨_,h5,h6⟩⟩ | ⟨_,h4,h5,_⟩
    ·rw [hxk,e'] at h4;cases h4
    ·omega
    ·have hf2:x.raw.f=128:=h10
     rw [if_pos hf2] at h6
     exact ⟨by omega,h5⟩
    ·rw [hxk] at h4 h5;omega
theorem zjE.spoilt {x0:RawP} {og:UInt8} (hx0:l[0]?=some x0) (hk0:x0.k=1) (hv0:x0.v=[og]) (hog:3≤og.toNat) (h:zjE l k a rest o):0<k→2≤o:=by
 induction h with
 | start=>intro h;omega
 | step hp hx hst ih =>
  rename_i k x a a' rest rest' o out
  intro _
  by_cases hz:0<k
  ·have:=ih hz;omega
  ·obtain rfl:k=0:=by omega
   obtain rfl:x0=x:=by rw [hx0] at hx;exact Option.some.inj hx
   have e1:x0.raw.k=1:=hk0
   have e2:x0.raw.v=[og]:=hv0
   have hc:cntK x0.k (l.take 0)=0:=rfl
   rw [hc] at hst
   rcases hst with ⟨_,_,⟨h5,_⟩ | ⟨_,⟨_,h5⟩ | ⟨_,i,h5,h6,h7,h8,_⟩⟩⟩ | ⟨h5,_⟩ | ⟨h4,_⟩
   ·omega
   ·omega
   ·exfalso
    rw [e1] at h5
    rw [e2] at h7
    cases i with
    | origin v =>
     have h9:0≤v∧v≤255:=h6
     have h10:[UInt8.ofNat v.toNat]=[og]:=h7
     have h11:=List.cons.inj h10 |>.1
     have h12:og.toNat=v.toNat:=by rw [← h11,UInt8.toNat_ofNat'];omega
     have h13:=((ziB _).1 h8).1
     have h14:0≤v∧v≤2:=h13
     omega
    | path _=>exact absurd (show (2:Int)=1 from h5) (by decide)
    | med _=>exact absurd (show (4:Int)=1 from h5) (by decide)
    | pref _=>exact absurd (show (5:Int)=1 from h5) (by decide)
    | orig _ _=>exact absurd (show (9:Int)=1 from h5) (by decide)
    | clus _=>exact absurd (show (10:Int)=1 from h5) (by decide)
    | exts _=>exact absurd (show (16:Int)=1 from h5) (by decide)
    | tun _=>exact absurd (show (22:Int)=1 from h5) (by decide)
   ·omega
   ·rw [e1] at h4;exact absurd h4 (by decide)
end
end
section
open Go.RowKit
def zf9 (a:Ats) (k:Nat):List Item :=
 match k with
 | 0=>[.origin a.o]
 | 1=>[.path a.path]
 | 2=>if 0≤a.med then [.med a.med] else []
 | 3=>if 0≤a.pref then [.pref a.pref] else []
 | 4=>if 0<a.os then [.orig a.os a.ob] else []
 | 5=>if a.cl=[] then [] else [.clus a.cl]
 | 6=>if a.ex=[] then [] else [.exts a.ex]
 | 7=>tunI a.tn
 | _=>[]
def zkN (a:Ats):Nat→List Item
 | 0=>[]
 | k+1=>zkN a k++zf9 a k
theorem znb (a:Ats):zkN a 8=ze9 a:=by
 show ((((((([]++zf9 a 0)++zf9 a 1)++zf9 a 2)++zf9 a 3)++zf9 a 4)++zf9 a 5)++zf9 a 6)++zf9 a 7=_
 unfold ze9 zf9
 simp only [List.nil_append,List.append_assoc]
 rfl
def zgv (a:Ats) (k:Nat):List Rw:=(zkN a k).map Item.rw
theorem zg3 (a:Ats):zgv a 8=zeV a:=by unfold zgv zeV;rw [znb]
theorem zf3 (a:Ats) (k:Nat):zgv a (k+1)=zgv a k++(zf9 a k).map Item.rw:=by unfold zgv;show ((zkN a k++zf9 a k).map Item.rw)=_;rw [List.map_append]
theorem zr1 (a:Ats) (k:Nat):(zf9 a k).length≤1:=by
 unfold zf9
 split
 all_goals first | exact Nat.le_refl _ | (split <;> simp) | (unfold tunI;split <;> simp) | simp
theorem zfw (a:Ats):∀ k,(zgv a k).length≤k
 | 0=>Nat.le_refl _
 | k+1=>by
  have h1:=zfw a k
  have h2:=zr1 a k
  rw [zf3,List.length_append,List.length_map]
  omega
def knK (k:Nat):Int:=match k with | 0=>1 | 1=>2 | 2=>4 | 3=>5 | 4=>9 | 5=>10 | 6=>16 | _=>22
def knF (k:Nat):Int:=match k with | 0=>64 | 1=>64 | 2=>128 | 3=>64 | 4=>128 | 5=>128 | 6=>192 | _=>192
theorem zun (w:World) {k:Nat} (h:k<8):(Instr.index 132 (.agg #[.int .i64 1,.int .i64 64,.int .i64 2,.int .i64 64,.int .i64 4,.int .i64 128,.int .i64 5,.int .i64 64,.int .i64 9,.int .i64 128,.int .i64 10,.int .i64 128,.int .i64 16,.int .i64 192,.int .i64 22,.int .i64 192]) (.int .i64 (k:Int))).run Tryz.prog w = .ok (.agg #[.int .i64 (knK k),.int .i64 (knF k)]) w:=by
 match k,h with
 | 0,_=>exact zcz w
 | 1,_=>exact zc7 w
 | 2,_=>exact zdt w
 | 3,_=>exact zdP w
 | 4,_=>exact zeh w
 | 5,_=>exact zfa w
 | 6,_=>exact zgD w
 | 7,_=>exact ziU w
theorem val_kn (p:AtP) (hr:zs5 p.ats) (k:Nat) (hk:k<8):∃ (b:List UInt8) (there:Bool),(zf9 p.ats k).map Item.rw=(if there then [⟨knF k,knK k,b⟩] else []) ∧
  ∀ (x:World) (lo hi:Nat),zar x lo hi p→hi≤x.heap.size→Calls Tryz.prog 74 #[.agg (attC p),.int .i64 (knK k)] x (zaL x b there):=by
 have hpth:(p.path.length≤16)∧p.path.all okS=true:=by
  have h1:=hr.path
  unfold zoh at h1
  rw [Bool.and_eq_true,decide_eq_true_eq] at h1
  obtain ⟨h2,h3⟩:=h1
  have h4:p.ats.path=p.path.map SgP.sg:=rfl
  rw [h4,List.length_map] at h2
  rw [h4,List.all_map] at h3
  exact ⟨h2,h3⟩
 have htun:(p.tl.length≤1)∧p.tl.all okT=true:=by
  obtain ⟨h2,h3⟩:=hr.tn
  have h4:p.ats.tn=p.tl.map TnP.tun:=rfl
  rw [h4,List.length_map] at h2
  rw [h4,List.all_map] at h3
  exact ⟨h2,h3⟩
 match k,hk with
 | 0,_ =>
  obtain ⟨O,hO⟩:∃ O:Nat,p.o=O:=⟨p.o.toNat,by have:=hr.o.1;have h:p.ats.o=p.o:=rfl;omega⟩
  have hO2:O≤255:=by have:=hr.o.2;have h:p.ats.o=p.o:=rfl;omega
  refine ⟨[UInt8.ofNat O],true,?_,fun x lo hi h hh=>zqp x lo hi p h hh O hO hO2⟩
  show [Item.rw (.origin p.o)]=_
  rw [hO]
  show [(⟨64,1,[UInt8.ofNat ((O:Nat):Int).toNat]⟩:Rw)]=_
  rw [Int.toNat_natCast]
  rfl
 | 1,_=>exact ⟨zlO (p.path.map SgP.sg),true,rfl,fun x lo hi h hh=>zvx x lo hi p h hh hpth.1 hpth.2⟩
 | 2,_ =>
  by_cases hm:0≤p.med
  ·exact ⟨be 4 p.med.toNat,true,by show (if 0≤p.med then [Item.med p.med] else []).map Item.rw=_;rw [if_pos hm];rfl,fun x lo hi h hh=>zqk x lo hi p h hh ⟨hm,hr.med.2⟩⟩
  ·exact ⟨be 4 p.med.toNat,false,by show (if 0≤p.med then [Item.med p.med] else []).map Item.rw=_;rw [if_neg hm];rfl,fun x lo hi h hh=>ztc x lo hi p h hh (by omega)⟩
 | 3,_ =>
  by_cases hm:0≤p.pref
  ·exact ⟨be 4 p.pref.toNat,true,by show (if 0≤p.pref then [Item.pref p.pref] else []).map Item.rw=_;rw [if_pos hm];rfl,fun x lo hi h hh=>zqj x lo hi p h hh ⟨hm,hr.pref.2⟩⟩
  ·exact ⟨be 4 p.pref.toNat,false,by show (if 0≤p.pref then [Item.pref p.pref] else []).map Item.rw=_;rw [if_neg hm];rfl,fun x lo hi h hh=>ztb x lo hi p h hh (by omega)⟩
 | 4,_ =>
  rcases hr.orig with hz | hf
  ·have hz1:p.os=0:=hz.1
   exact ⟨zat p.os p.ob,false,by show (if 0<p.os then [Item.orig p.os p.ob] else []).map Item.rw=_;rw [if_neg (by omega)];rfl,fun x lo hi h hh=>znD x lo hi p h hh hz⟩
  ·have hf4:p.os=4:=by have h1:four p.os p.ob=true:=hf;unfold four at h1;rw [Bool.and_eq_true,decide_eq_true_eq] at h1;exact h1.1
   exact ⟨zat p.os p.ob,true,by show (if 0<p.os then [Item.orig p.os p.ob] else []).map Item.rw=_;rw [if_pos (by omega)];rfl,fun x lo hi h hh=>zqi x lo hi p h hh hf⟩
 | 5,_ =>
  obtain ⟨h1,h2⟩:=hr.cl
  have e:∀ l:List (Int × List UInt8),clB l=catE fD l:=fun l=>(zpX l).symm
  by_cases hc:p.cl=[]
  ·exact ⟨clB p.cl,false,by show (if p.cl=[] then [] else [Item.clus p.cl]).map Item.rw=_;rw [if_pos hc];rfl,fun x lo hi h hh=>zqn x lo hi p h hh h1 h2 (by rw [hc];rfl)⟩
  ·refine ⟨clB p.cl,true,by show (if p.cl=[] then [] else [Item.clus p.cl]).map Item.rw=_;rw [if_neg hc];rfl,fun x lo hi h hh=>ztf x lo hi p h hh h1 h2 ?_⟩
   have hl:(clB p.cl).length=4*p.cl.length:=zsy (fun y hy=>h.cl.sz y hy) h2
   have:0<p.cl.length:=List.length_pos_iff.2 hc
   omega
 | 6,_ =>
  by_cases hc:p.ex=[]
  ·exact ⟨zbb p.ex,false,by show (if p.ex=[] then [] else [Item.exts p.ex]).map Item.rw=_;rw [if_pos hc];rfl,fun x lo hi h hh=>zle x lo hi p h hh (by rw [hc];rfl)⟩
  ·exact ⟨zbb p.ex,true,by show (if p.ex=[] then [] else [Item.exts p.ex]).map Item.rw=_;rw [if_neg hc];rfl,fun x lo hi h hh=>zte x lo hi p h hh hr.ex (List.length_pos_iff.2 hc)⟩
 | 7,_ =>
  cases ht:p.tl with
  | nil =>
   refine ⟨catE fT p.tl,false,?_,fun x lo hi h hh=>zql x lo hi p h hh htun.1 htun.2 (by rw [ht];rfl)⟩
   show (tunI (p.tl.map TnP.tun)).map Item.rw=_
   rw [ht]
   rfl
  | cons t r =>
   have hr0:r=[]:=by
    have h1:=htun.1
    rw [ht] at h1
    exact List.eq_nil_of_length_eq_zero (by have h2:r.length+1≤1:=h1;omega)
   subst hr0
   refine ⟨catE fT p.tl,true,?_,fun x lo hi h hh=>znE x lo hi p h hh htun.1 htun.2 ?_⟩
   ·show (tunI (p.tl.map TnP.tun)).map Item.rw=_
    rw [ht]
    show [(⟨192,22,zeJ t.tun⟩:Rw)]=[⟨192,22,fT t++[]⟩]
    rw [List.append_nil]
    rfl
   ·rw [ht]
    show 0<(fT t++[]).length
    unfold fT zeJ zne
    simp
theorem AtS.grown {w x y:World} {lo hi:Nat} {p:AtP} (h:AtS w x lo hi p) {row:Option Nat} (hg:x.grownBy y row) (hr:∀ g,row=some g→w.heap.size<g):AtS w y lo hi p :=
 ⟨h.b.grown hg (fun e=>by have:=hr _ e.symm;omega),h.at_.grown hg h.hx (fun g e=>.inr (by have:=hr g e;have:=h.hh;omega)),h.bl.grown hg h.bl.size (fun g e=>by have:=hr g e;omega),h.hh⟩
def zs2 (w:World) (a:Ats) (e:Ending) (w':World):Prop :=
 ∃ v xs,e = .returned (.tuple #[v,.int .i64 0])∧zax w' w.heap.size 89 5 v xs∧xs.map RawP.raw=zeV a∧Below w.heap.size w w'
set_option maxRecDepth 20000 in
set_option maxHeartbeats 6000000 in
theorem zqb (w:World) (lo hi:Nat) (p:AtP) (h:zar w lo hi p) (hh:hi≤w.heap.size) (hkn:zdd w) (hr:zbJ p.ats=true) :
  Calls Tryz.prog 41 #[.agg (attC p)] w (zs2 w p.ats):=by
 have hra:=(ziB p.ats).1 hr
 have HVAL:=hide (val_kn p hra)
 have S0:=hide (AtS.start h hh)
 have HOB:=h.ob
 have RN0:=hide (zaj (l:=attL p) S0.out.b)
 have KN0:=hide (hkn.below ((Below.refl w.heap.size w).alloc (Nat.le_refl _) (.cells (attC p) 30)))
 have HR:=hide hr
 have hsz0:(w.alloc (.cells (attC p) 30)).heap.size=w.heap.size+1:=by simp
 clear h hkn hr hra
 go_enter Tryz.func41,Tryz.ntmps41
 go_wp2_with ((with_reducible refine zaw ?_ (.tmp 1) rfl w.heap.size 0 rfl RN0.out HOB ?_);· rfl)
 generalize w.alloc (.cells (attC p) 30)=w0 at *
 refine (zcL w0 lo hi p S0.out.at_ S0.out.hx).mono ?_
 rw [HR.out]
 rintro e w1 ⟨rfl,hb1⟩
 have S1:=hide (S0.out.on hb1)
 have KN1:=hide (KN0.out.below hb1)
 have hz1:=hb1.size
 clear hb1 S0 RN0 KN0
 obtain ⟨base,hbase⟩:∃ base,w1.heap.size=base:=⟨_,rfl⟩
 have hbw:w.heap.size<base:=by omega
 have HBS:=hide hbase
 clear hbase
 go_wp2_with (with_reducible refine zbe rfl (.global 0) rfl rfl KN1.out ?_)
 go_loopw [4,13] (fun v i wr=>∃ (k q c:Nat) (B:Option Addr) (xs:List RawP),k≤8∧v = .slice B q c∧i = .int .i64 k∧xs.length=q∧zax wr base 89 5 (.slice B q c) xs∧xs.map RawP.raw=zgv p.ats k∧AtS w wr lo hi p∧base≤wr.heap.size) (fun _ i _=>8-(intOf i).toNat)
 case atStart=>exact ⟨0,0,0,none,[],by decide,rfl,rfl,rfl,zax.nil _ _ _ _,rfl,S1.out,by rw [HBS.out];exact Nat.le_refl _⟩
 case round =>
  obtain ⟨k,q,c,B,xs,hk,rfl,rfl,hql,hown,hraws,hst,hbz⟩:=hrel
  have HO:=hide hown
  have HRW:=hide hraws
  have ST:=hide hst
  have HQL:=hide hql
  have hq8:q≤8:=by have h1:=zfw p.ats k;rw [← hraws,List.length_map,hql] at h1;omega
  clear hown hraws hst hql
  by_cases hlt:k<8
  ·have hkl:((k:Nat):Int)<8:=by omega
   have qk:=fun (x:World)=>zun x hlt
   obtain ⟨b,there,hit,hval⟩:=HVAL.out k hlt
   obtain ⟨K,hK⟩:∃ K,knK k=K:=⟨_,rfl⟩
   obtain ⟨F,hF⟩:∃ F,knF k=F:=⟨_,rfl⟩
   rw [hK,hF] at qk hit
   rw [hK] at hval
   have HIT:=hide hit
   have HVL:=hide hval
   clear hit hval hK hF
   have RNr:=hide (zaj (l:=attL p) ST.out.b)
   have B9:Hid (Below wr.heap.size wr (wr.alloc (.cells #[.int .i64 K,.int .i64 F] 131))):=hide ((Below.refl _ _).alloc (Nat.le_refl _) _)
   have c90:(wr.alloc (.cells #[.int .i64 K,.int .i64 F] 131)).cell? ⟨wr.heap.size,0,none⟩=some (.int .i64 K):=(Blk.new wr _ _).cell 0
   have c91:(wr.alloc (.cells #[.int .i64 K,.int .i64 F] 131)).cell? ⟨wr.heap.size,1,none⟩=some (.int .i64 F):=(Blk.new wr _ _).cell 1
   have RN9:=hide (zaj (l:=attL p) (ST.out.b.over B9.out))
   go_wp2_with ((with_reducible refine zaw ?_ (.tmp 1) rfl w.heap.size 0 rfl RN9.out HOB ?_);· rfl)
   have S9:=hide (ST.out.on B9.out)
   have HO9:=hide (HO.out.over B9.out)
   have KB9:=hide (Blk.new wr 131 #[.int .i64 K,.int .i64 F])
   have hz9:=B9.out.size
   have HNB:Hid (∀ j,zfj (.slice B q c) xs j→j<wr.heap.size):=hide (fun j hj=>(HO.out.lt j hj).2)
   clear RNr RN9 B9 ST HO c90 c91 qk
   generalize (wr.alloc (.cells #[.int .i64 K,.int .i64 F] 131))=w9 at *
   refine (HVL.out w9 lo hi S9.out.at_ S9.out.hx).mono ?_
   rintro e w2 ⟨v2,rfl,ho2,hb2⟩
   have S2:=hide (S9.out.on hb2)
   have HO2:=hide (HO9.out.over hb2)
   have KB2:=hide (KB9.out.over hb2)
   have hz2:=hb2.size
   clear hb2 S9 HO9 KB9
   cases there
   ·have hnx:xs.map RawP.raw=zgv p.ats (k+1):=by rw [zf3,HIT.out,HRW.out];simp
    have HNX:=hide hnx
    clear hnx ho2
    go_wp2_with fail
    go_roundw
    case rel=>exact ⟨k+1,q,c,B,xs,by omega,rfl,by go_num,HQL.out,HO2.out,HNX.out,S2.out,by omega⟩
    case measure=>simp [intOf];omega
   ·have OX2:=hide (ho2 rfl)
    obtain ⟨A2,c2,rfl,_,_⟩:=zac (ho2 rfl)
    have HW4:Hid (Below w2.heap.size w2 (w2.alloc (.cells (rawC ⟨F,K,A2,b.length,c2,b⟩) 89))):=hide ((Below.refl _ _).alloc (Nat.le_refl _) _)
    obtain ⟨v5,w5,hrun,ho5,hg5,hat5⟩:=zgw (w2.alloc (.cells (rawC ⟨F,K,A2,b.length,c2,b⟩) 89)) base 59 (.slice B q c) xs (HO2.out.over HW4.out) ⟨F,K,A2,b.length,c2,b⟩ (zcq (za8 OX2.out HW4.out) (by omega)) (fun j hj hbk=>by have h1:=HNB.out j hbk;have h2:=(OX2.out.lt j hj).1;omega) _ _ _ 1 (AtG.one (Blk.new w2 89 (rawC ⟨F,K,A2,b.length,c2,b⟩))) (by rw [HQL.out];omega) (Nat.le_trans (by omega) HW4.out.size)
    have HRUN:=hide hrun
    have HO5:=hide ho5
    have S5:=hide ((S2.out.on HW4.out).grown hg5 (fun g e=>by have:=(HO2.out.lt g (.inl e)).1;omega))
    have hz5:=Nat.le_trans HW4.out.size hg5.size
    have hnx:(xs++[(⟨F,K,A2,b.length,c2,b⟩:RawP)]).map RawP.raw=zgv p.ats (k+1):=by rw [zf3,HIT.out,← HRW.out,List.map_append];rfl
    have HNX:=hide hnx
    have k0:w2.cell? ⟨wr.heap.size,0,none⟩=some (.int .i64 K):=KB2.out.cell 0
    have k1:w2.cell? ⟨wr.heap.size,1,none⟩=some (.int .i64 F):=KB2.out.cell 1
    clear hrun ho5 hg5 hat5 hnx ho2 HO2 OX2 S2 HNB KB2
    go_wp2_with (first
     | (with_reducible refine zcs rfl (.tmp 30) rfl ⟨F,K,A2,b.length,c2,b⟩ rfl ?_)
     | (at_builtin;refine za2 rfl (.tmp 24) (.tmp 31) 59 59 59 rfl rfl rfl rfl HRUN.out ?_;refine Hid.out ?_))
    refine hide ?_
    obtain ⟨B5,c5,rfl,_,_⟩:=HO5.out.shape
    go_wp2
    go_roundw
    case rel=>exact ⟨k+1,q+1,c5,B5,_,by omega,by rw [List.length_append,HQL.out];rfl,by go_num,by rw [List.length_append,HQL.out];rfl,by have:=HO5.out;rw [List.length_append,HQL.out] at this;exact this,HNX.out,S5.out,by omega⟩
    case measure=>simp [intOf];omega
  ·obtain rfl:k=8:=by omega
   go_wp2
   go_ret2
   exact ⟨.slice B q c,xs,rfl,HO.out.more (by omega),by rw [HRW.out,zg3],ST.out.bl⟩
end
end Go.Proofs.YtookpplebikfnaaGreatDoor
