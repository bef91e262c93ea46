/-
  How attributes that come in are opened. No condition.
  What the library's own tables hold while a statement runs, and that they go on so. No condition.
  A number's text: what strconv.Itoa does at a byte, and strconv.FormatInt at base 16 and numbers below 65536. The one condition: the library's tables hold what its text lays.
  What join and zeros of package addr do. The one condition: the numbers are below 65536, and there are few of them.
  What digit and number of package addr do. The one condition: a base of at most 16, a greatest number that is small.
  What zeros and textSix of package addr do. The one condition: the library's tables hold what its text lays.
  What numbers of package addr does. The conditions: the text is shorter than 2^32 - 15 bytes, and the library's tables hold what its text lays.
  What slices.Concat does at three slices of ints, eight in all. No other condition.
  What ofNumbers of package addr does. The conditions: few numbers, each of which fits its bytes.
  What readFour, readSix and read of package addr do. The conditions: the text is no longer than 2,000,000 bytes, and the library's tables hold what its text lays.
  Plain mathematics of layer 3: what distinguishers are made of, their parts, their order, their texts. Nothing here speaks of the program.
  Plain mathematics of layer 3's texts: what is written of a distinguisher is read as it. Nothing here speaks of the program.
  Distinguishers as values and as blocks: their cells, and when two are equal. No condition.
  What highSize, ofBytes, Make, Parts and Compare of package rd do, in whatever memory. No condition beyond sizes that fit memory.
  What digits.Text and digits.Bytes do: bytes as signs of base 16, and back. No condition beyond sizes that fit memory.
  What digits.Bytes does: the bytes of signs of base 16. No condition beyond sizes that fit memory.
  Texts of any size that fits memory: strings.Cut at one sign, digits.Number, and addr.Parse of a text without a colon. The one condition beside: the library's tables hold what its text lays.
  What textHigh, Text, readHigh, read and Parse of package rd do. The one condition beyond sizes that fit memory: the library's tables hold what its text lays.
-/
import Derived.Lib.AppendIntMem
import Derived.Laws.RangeAny
import Derived.Deep.RegionHeld3
import Derived.Lib.Builder
import Derived.Lib.IndexBytes
import Derived.Test.YtookpplebikfnaaGreatDoorKHAM
set_option linter.unusedVariables false
set_option linter.unusedSimpArgs false
namespace Go.Proofs.YtookpplebikfnaaGreatDoor
section
set_option maxRecDepth 100000
open Go.RowKit Go.ChangeShapes Go.WideShapes Go.ChangeAt
theorem ze4 {H α:Type} [Inhabited α] {ec:TypeId × Value→H} {P:Program} {enc:α→List Value} {m:World→Nat→Nat→α→Prop} {W:α→Prop} {w:World} {t e:TypeId} {K:Nat} (hK:0<K)
  (ht:P.underlying t=some (.slice e)) (ce:P.cellsOf e=K) (hone:∀ x,W x→(enc x).length=K)
  (step:∀ fuel l y,DataW.trod ec P w 0 (fun _=>true) true fuel e l=some y→∃ q,l=enc q∧m w 0 w.heap.size q∧W q)
  {fuel:Nat} {v:Value} {y:DataW H × List MemPlace} (hf:DataW.trod ec P w 0 (fun _=>true) true fuel t [v]=some y) :
  ∃ A n c xs,v = .slice A n c∧RowE enc m W w 0 w.heap.size A n xs∧n≤c∧c≤maxLen:=by
 rcases Go.Deep.open_slice ht hf with ⟨hcs,_⟩ | ⟨a,n,c,m',k,D,Pl,hcs,hb,hl,hm,hmm,_,hx⟩
 ·injection hcs with hcs
  exact ⟨none,0,0,[],hcs,RowE.nil _ _ _ _,by omega,by omega⟩
 ·injection hcs with hcs
  simp only [if_true] at hmm
  have each:∀ i,i<n→∃ q:α,(m w 0 w.heap.size q∧W q)∧∀ j u,(enc q)[j]?=some u→w.cell? (a.add (i*K+j))=some u:=by
   intro i hi
   obtain ⟨cs',h1,h2⟩:=hx i (by omega)
   rw [ce] at h1
   obtain ⟨_,hlen,hcell⟩:=World.cells?_some h1
   obtain ⟨q,hq,hw,hn⟩:=step _ _ _ h2
   refine ⟨q,⟨hw,hn⟩,fun j u hu=>?_⟩
   have hj:j<K:=by have h3:=(List.getElem?_eq_some_iff.1 hu).1;rw [hone q hn] at h3;exact h3
   have hc:=hcell j hj
   rw [hq] at hc
   rw [Go.Deep.add_add] at hc
   rw [hc]
   exact hu
  obtain ⟨q,hq⟩:=Go.Deep.choose_lt each
  refine ⟨some a,n,c,(List.range n).map q,hcs,⟨?_,?_,?_⟩,hl,hm⟩
  ·have hlen:((List.range n).map q).length=n:=by simp
   have hone':∀ x∈(List.range n).map q,(enc x).length=K:=fun x hx=>by
    obtain ⟨i,hi,rfl⟩:=List.mem_map.1 hx
    exact hone _ (hq i (List.mem_range.1 hi)).1.2
   refine ⟨hlen,fun hn=>?_⟩
   obtain ⟨b,o,spot⟩:=a
   have hl0:0<(enc (q 0)).length:=by rw [hone _ (hq 0 (by omega)).1.2];exact hK
   have h00:=(hq 0 (by omega)).2 0 _ (List.getElem?_eq_getElem hl0)
   have hspot:spot=none:=by simpa [Addr.add] using World.cell?_spot h00
   subst hspot
   have hbl:b<w.heap.size:=by have:=block_lt_of_cell h00;simpa [Addr.add] using this
   refine ⟨b,o,rfl,Nat.zero_le _,hbl,fun j u hu=>?_⟩
   have hj:j<n*K:=by have:=(List.getElem?_eq_some_iff.1 hu).1;rw [zfc hone',hlen] at this;exact this
   have hi:j/K<n:=Nat.div_lt_of_lt_mul (by rw [Nat.mul_comm];exact hj)
   have hr0:j%K<K:=Nat.mod_lt _ hK
   have hdm:j/K*K+j%K=j:=by rw [Nat.mul_comm];exact Nat.div_add_mod j K
   have hgi:((List.range n).map q)[j/K]?=some (q (j/K)):=by
    rw [List.getElem?_map,List.getElem?_range hi];rfl
   have hr:j%K<(enc (q (j/K))).length:=by rw [hone _ (hq _ hi).1.2];exact hr0
   have hg:=zgE hone' hgi (List.getElem?_eq_getElem hr)
   rw [hdm,hu] at hg
   have hq':=(hq (j/K) hi).2 (j%K) u (by rw [List.getElem?_eq_getElem hr];exact hg.symm)
   rw [zcE,hdm] at hq'
   exact hq'
  ·intro u hu
   obtain ⟨i,hi,rfl⟩:=List.mem_map.1 hu
   exact (hq i (List.mem_range.1 hi)).1.1
  ·intro u hu
   obtain ⟨i,hi,rfl⟩:=List.mem_map.1 hu
   exact (hq i (List.mem_range.1 hi)).1.2
instance:Inhabited SgP:=⟨⟨false,none,0,0,[]⟩⟩
instance:Inhabited TnP:=⟨⟨false,0,0,0,[],none,0,0,[]⟩⟩
section
variable {H:Type} {ec:TypeId × Value→H} {w:World} {fuel:Nat} {l:List Value} {y:DataW H × List MemPlace}
theorem zqN (h:DataW.trod ec Tryz.prog w 0 (fun _=>true) true fuel 82 l=some y):∃ q:SgP,l=sgL q∧mS w 0 w.heap.size q∧wS q:=by
 obtain ⟨y0,y1,k',hy,hlen,g0,g1⟩:=trod_struct2 Tryz.underlying82 h
 have hlen2:l.length=2:=hlen.trans (by kernel_rfl)
 match l,hlen2 with
 | [v0,v1],_ =>
  have cb:Tryz.prog.cellsOf 4=1:=by kernel_rfl
  have cv:Tryz.prog.cellsOf 80=1:=by kernel_rfl
  have e0:DataW.trod ec Tryz.prog w 0 (fun _=>true) true k' 4 [v0]=some y0:=by
   have h:=g0
   rw [show (Tryz.prog.cellsOf 4)=1 from cb] at h
   exact h
  have e1:DataW.trod ec Tryz.prog w 0 (fun _=>true) true k' 80 [v1]=some y1:=by
   have h:=g1
   rw [show (Tryz.prog.cellsOf 80)=1 from cv] at h
   exact h
  obtain ⟨q0,r0,_⟩:=DataW.trod_bool Tryz.underlying4 e0
  obtain ⟨A,n,c,xs,rfl,hr,hn,_⟩:=ze4 (α:=Int) (enc:=inL) (m:=mI) (W:=wI) (K:=1) (by decide) Tryz.underlying80 (by kernel_rfl) (fun x _=>zga x)
   (fun fuel l y h=>by
    obtain ⟨q,r,_,_⟩:=DataW.trod_int Tryz.underlying3 h
    exact ⟨q,r,trivial,trivial⟩) e1
  injection r0 with r0
  exact ⟨⟨q0,A,n,c,xs⟩,by rw [r0];rfl,⟨hr.row,hn⟩,trivial⟩
theorem zqx (h:DataW.trod ec Tryz.prog w 0 (fun _=>true) true fuel 77 l=some y):∃ q:TnP,l=tnL q∧mT w 0 w.heap.size q∧wT q:=by
 obtain ⟨xs,n,_,hx,hl,hlen,hfs⟩:=DataW.trod_struct Tryz.underlying77 h
 match xs,hlen with
 | [y0,y1,y2,y3,y4],_ =>
  have g0:=hfs 0 _ rfl
  have g1:=hfs 1 _ rfl
  have g2:=hfs 2 _ rfl
  have g3:=hfs 3 _ rfl
  have g4:=hfs 4 _ rfl
  have ci:Tryz.prog.cellsOf 3=1:=by kernel_rfl
  have cb:Tryz.prog.cellsOf 4=1:=by kernel_rfl
  have ca:Tryz.prog.cellsOf 25=17:=by kernel_rfl
  have cv:Tryz.prog.cellsOf 36=1:=by kernel_rfl
  have e0:DataW.trod ec Tryz.prog w 0 (fun _=>true) true n 4 ((l.drop 0).take 1)=some y0:=by rw [← cb];exact g0
  have e1:DataW.trod ec Tryz.prog w 0 (fun _=>true) true n 3 ((l.drop 1).take 1)=some y1:=by rw [← ci];exact g1
  have e2:DataW.trod ec Tryz.prog w 0 (fun _=>true) true n 3 ((l.drop 2).take 1)=some y2:=by rw [← ci];exact g2
  have e3:DataW.trod ec Tryz.prog w 0 (fun _=>true) true n 25 ((l.drop 3).take 17)=some y3:=by rw [← ca];exact g3
  have e4:DataW.trod ec Tryz.prog w 0 (fun _=>true) true n 36 ((l.drop 20).take 1)=some y4:=by rw [← cv];exact g4
  have hll:l.length=21:=hl.trans (by kernel_rfl)
  obtain ⟨lf,hb0,_⟩:=DataW.trod_bool Tryz.underlying4 e0
  obtain ⟨k,hk,_,wk⟩:=DataW.trod_int Tryz.underlying3 e1
  obtain ⟨lb,hll2,_,wl⟩:=DataW.trod_int Tryz.underlying3 e2
  obtain ⟨s,bs,hs,hbl,hw⟩:=zcU e3
  obtain ⟨v4,hv4⟩:∃ v4,(l.drop 20).take 1=[v4]:=by
   have hlen:((l.drop 20).take 1).length=1:=by rw [List.length_take,List.length_drop,hll];rfl
   match (l.drop 20).take 1,hlen with
   | [v4],_=>exact ⟨v4,rfl⟩
  rw [hv4] at e4
  have hcs:l = .bool lf :: .int .i64 k :: .int .i64 lb::((.int .i64 s::bvs bs)++[v4]):=by
   have d20:(l.drop 20).take 1=l.drop 20:=List.take_of_length_le (by rw [List.length_drop,hll];decide)
   have s1:l=(l.drop 0).take 1++((l.drop 1).take 1++((l.drop 2).take 1++((l.drop 3).take 17++l.drop 20))):=by
    have a3:l.drop 3=(l.drop 3).take 17++l.drop 20:=by
     conv=>lhs;rw [← List.take_append_drop 17 (l.drop 3),List.drop_drop]
    have a2:l.drop 2=(l.drop 2).take 1++l.drop 3:=by
     conv=>lhs;rw [← List.take_append_drop 1 (l.drop 2),List.drop_drop]
    have a1:l.drop 1=(l.drop 1).take 1++l.drop 2:=by
     conv=>lhs;rw [← List.take_append_drop 1 (l.drop 1),List.drop_drop]
    rw [← a3,← a2,← a1,List.drop_zero,List.take_append_drop]
   rw [s1,hb0,hk,hll2,hs,← d20,hv4]
   rfl
  obtain ⟨A,m,c,rfl⟩:∃ A m c,v4 = .slice A m c:=by
   rcases DataW.trod_slice Tryz.underlying36 e4 with ⟨h,_⟩ | ⟨a,len,cap,_,_,_,_,h,_⟩
   ·injection h with h
    exact ⟨_,_,_,h⟩
   ·injection h with h
    exact ⟨_,_,_,h⟩
  obtain ⟨id,hA,hm⟩:=zmY Tryz.underlying36 Tryz.underlying5 (by kernel_rfl) e4
  exact ⟨⟨lf,k,lb,s,bs,A,m,c,id⟩,hcs,⟨hA,hm⟩,hbl⟩
theorem zos:∀ l:List B8,za4 (fun q:B8=>bvs q.1) l=bvs (zbb l)
 | []=>rfl
 | q::r=>by
  show bvs q.1++za4 (fun q:B8=>bvs q.1) r=bvs (q.1++zbb r)
  rw [zos r]
  simp [bvs]
theorem atE_of {A:Option Addr} {lo hi n:Nat} {l:List B8} (h:AtG (fun q:B8=>bvs q.1) w lo hi A n l):AtE w lo hi A n l:=by
 have hlen:=h.len
 refine ⟨hlen,by rw [zcB,hlen],fun hn=>?_⟩
 obtain ⟨b,o,hA,h1,h2,h3⟩:=h.2 (by omega)
 refine ⟨b,o,hA,h1,h2,fun k u hu=>?_⟩
 refine h3 k (bv u) ?_
 rw [zos,bvs,List.getElem?_map,hu]
 rfl
instance:Inhabited B8:=⟨⟨[0,0,0,0,0,0,0,0],rfl⟩⟩
theorem zsL (h:DataW.trod ec Tryz.prog w 0 (fun _=>true) true fuel 30 l=some y):∃ p:AtP,l=attL p∧zar w 0 w.heap.size p∧p.pc≤maxLen∧p.tc≤maxLen:=by
 obtain ⟨xs,n,_,hx,hl,hlen,hfs⟩:=DataW.trod_struct Tryz.underlying30 h
 match xs,hlen with
 | [y0,y1,y2,y3,y4,y5,y6,y7],_ =>
  have g0:=hfs 0 _ rfl
  have g1:=hfs 1 _ rfl
  have g2:=hfs 2 _ rfl
  have g3:=hfs 3 _ rfl
  have g4:=hfs 4 _ rfl
  have g5:=hfs 5 _ rfl
  have g6:=hfs 6 _ rfl
  have g7:=hfs 7 _ rfl
  have ci:Tryz.prog.cellsOf 3=1:=by kernel_rfl
  have ca:Tryz.prog.cellsOf 25=17:=by kernel_rfl
  have c1:Tryz.prog.cellsOf 22=1:=by kernel_rfl
  have c5:Tryz.prog.cellsOf 26=1:=by kernel_rfl
  have c6:Tryz.prog.cellsOf 27=1:=by kernel_rfl
  have c7:Tryz.prog.cellsOf 28=1:=by kernel_rfl
  have e0:DataW.trod ec Tryz.prog w 0 (fun _=>true) true n 3 ((l.drop 0).take 1)=some y0:=by rw [← ci];exact g0
  have e1:DataW.trod ec Tryz.prog w 0 (fun _=>true) true n 22 ((l.drop 1).take 1)=some y1:=by rw [← c1];exact g1
  have e2:DataW.trod ec Tryz.prog w 0 (fun _=>true) true n 3 ((l.drop 2).take 1)=some y2:=by rw [← ci];exact g2
  have e3:DataW.trod ec Tryz.prog w 0 (fun _=>true) true n 3 ((l.drop 3).take 1)=some y3:=by rw [← ci];exact g3
  have e4:DataW.trod ec Tryz.prog w 0 (fun _=>true) true n 25 ((l.drop 4).take 17)=some y4:=by rw [← ca];exact g4
  have e5:DataW.trod ec Tryz.prog w 0 (fun _=>true) true n 26 ((l.drop 21).take 1)=some y5:=by rw [← c5];exact g5
  have e6:DataW.trod ec Tryz.prog w 0 (fun _=>true) true n 27 ((l.drop 22).take 1)=some y6:=by rw [← c6];exact g6
  have e7:DataW.trod ec Tryz.prog w 0 (fun _=>true) true n 28 ((l.drop 23).take 1)=some y7:=by rw [← c7];exact g7
  have hll:l.length=24:=hl.trans (by kernel_rfl)
  have one:∀ k,k<24→∃ v,(l.drop k).take 1=[v]:=fun k hk=>by
   have hlen:((l.drop k).take 1).length=1:=by rw [List.length_take,List.length_drop,hll];omega
   match (l.drop k).take 1,hlen with
   | [v],_=>exact ⟨v,rfl⟩
  obtain ⟨o,ho,_,_⟩:=DataW.trod_int Tryz.underlying3 e0
  obtain ⟨md,hmd,_,_⟩:=DataW.trod_int Tryz.underlying3 e2
  obtain ⟨pf,hpf,_,_⟩:=DataW.trod_int Tryz.underlying3 e3
  obtain ⟨s,bs,hs,hbl,hw⟩:=zcU e4
  obtain ⟨v1,hv1⟩:=one 1 (by decide)
  obtain ⟨v5,hv5⟩:=one 21 (by decide)
  obtain ⟨v6,hv6⟩:=one 22 (by decide)
  obtain ⟨v7,hv7⟩:=one 23 (by decide)
  rw [hv1] at e1
  rw [hv5] at e5
  rw [hv6] at e6
  rw [hv7] at e7
  have hcs:l = .int .i64 o::v1 :: .int .i64 md :: .int .i64 pf::((.int .i64 s::bvs bs)++[v5,v6,v7]):=by
   have d23:(l.drop 23).take 1=l.drop 23:=List.take_of_length_le (by rw [List.length_drop,hll];decide)
   have a22:l.drop 22=(l.drop 22).take 1++l.drop 23:=by
    conv=>lhs;rw [← List.take_append_drop 1 (l.drop 22),List.drop_drop]
   have a21:l.drop 21=(l.drop 21).take 1++l.drop 22:=by
    conv=>lhs;rw [← List.take_append_drop 1 (l.drop 21),List.drop_drop]
   have a4:l.drop 4=(l.drop 4).take 17++l.drop 21:=by
    conv=>lhs;rw [← List.take_append_drop 17 (l.drop 4),List.drop_drop]
   have a3:l.drop 3=(l.drop 3).take 1++l.drop 4:=by
    conv=>lhs;rw [← List.take_append_drop 1 (l.drop 3),List.drop_drop]
   have a2:l.drop 2=(l.drop 2).take 1++l.drop 3:=by
    conv=>lhs;rw [← List.take_append_drop 1 (l.drop 2),List.drop_drop]
   have a1:l.drop 1=(l.drop 1).take 1++l.drop 2:=by
    conv=>lhs;rw [← List.take_append_drop 1 (l.drop 1),List.drop_drop]
   have a0:l=(l.drop 0).take 1++l.drop 1:=by rw [List.drop_zero,List.take_append_drop]
   rw [a0,a1,a2,a3,a4,a21,a22,← d23,ho,hv1,hmd,hpf,hs,hv5,hv6,hv7]
   rfl
  obtain ⟨pA,pn,pc,path,rfl,hp,hpn,hpc⟩:=ze4 (α:=SgP) (enc:=sgL) (m:=mS) (W:=wS) (K:=2) (by decide) Tryz.underlying22 (by kernel_rfl) (fun x _=>zd4 x) (fun fuel l y h=>zqN h) e1
  obtain ⟨cA,cn,cc,cl,rfl,hc,hcn,_⟩:=ze4 (α:=Int × List UInt8) (enc:=adL) (m:=mD) (W:=wD) (K:=17) (by decide) Tryz.underlying26 (by kernel_rfl) (fun x hx=>zfm hx)
   (fun fuel l y h=>by obtain ⟨s,bs,h1,h2,_⟩:=zcU h;exact ⟨(s,bs),h1,trivial,h2⟩) e5
  obtain ⟨eA,en,ec',ex,rfl,he,hen,_⟩:=ze4 (α:=B8) (enc:=fun q:B8=>bvs q.1) (m:=fun _ _ _ _=>True) (W:=fun _=>True) (K:=8) (by decide) Tryz.underlying27 (by kernel_rfl) (fun x _=>by simp [bvs,x.2])
   (fun fuel l y h=>by obtain ⟨bs,h1,h2⟩:=zfp Tryz.underlying105 Tryz.underlying5 (by kernel_rfl) (by kernel_rfl) h;exact ⟨⟨bs,h2⟩,h1,trivial,trivial⟩) e6
  obtain ⟨tA,tn,tc,tl,rfl,htt,htn,htc⟩:=ze4 (α:=TnP) (enc:=tnL) (m:=mT) (W:=wT) (K:=21) (by decide) Tryz.underlying28 (by kernel_rfl) (fun x hx=>zfX hx) (fun fuel l y h=>zqx h) e7
  exact ⟨⟨o,pA,pn,pc,path,md,pf,s,bs,cA,cn,cc,cl,eA,en,ec',ex,tA,tn,tc,tl⟩,hcs,⟨hbl,hp,hc,atE_of he.row,htt,hpn,hcn,hen,htn⟩,hpc,htc⟩
end
end
section
open Go.RowKit
def tz64:List Int:=[0,1,56,2,57,49,28,3,61,58,42,50,38,29,17,4,62,47,59,36,45,43,51,22,53,39,33,30,24,18,12,5,63,55,48,27,60,41,37,16,46,35,44,21,52,32,23,11,54,26,40,15,34,20,31,10,25,14,19,9,13,8,7,6]
open Go.RowKit
open Go.RowKit
def AtI (w:World) (lo hi:Nat) (A:Option Addr) (n:Nat) (xs:List Nat):Prop :=
 xs.length=n∧(0<n→∃ b o,A=some ⟨b,o,none⟩∧lo≤b∧b<hi∧∀ j (x:Nat),xs[j]?=some x→w.cell? ⟨b,o+j,none⟩=some (.int .i64 (x:Int)))
section
variable {w w':World} {lo hi n:Nat} {A:Option Addr} {xs:List Nat}
theorem AtI.len (h:AtI w lo hi A n xs):xs.length=n:=h.1
theorem AtI.keep (h:AtI w lo hi A n xs) (hk:∀ p:Addr,lo≤p.block→p.block<hi→w'.cell? p=w.cell? p):AtI w' lo hi A n xs :=
 ⟨h.1,fun hn=>by
  obtain ⟨b,o,e,h1,h2,hc⟩:=h.2 hn
  exact ⟨b,o,e,h1,h2,fun j u hu=>(hk _ h1 h2).trans (hc j u hu)⟩⟩
theorem AtI.below {B:Nat} (h:AtI w lo hi A n xs) (hb:Below B w w') (hB:hi≤B):AtI w' lo hi A n xs:=h.keep fun _ _ hp=>hb.cell (by omega)
theorem AtI.at_ {k:Nat} (h:AtI w lo hi A n xs) (hk:k<n):∃ b o x,A=some ⟨b,o,none⟩∧xs[k]?=some x∧w.cell? ⟨b,o+k,none⟩=some (.int .i64 (x:Int)):=by
 obtain ⟨b,o,e,_,_,hc⟩:=h.2 (by omega)
 have hl:k<xs.length:=by rw [h.1];exact hk
 exact ⟨b,o,xs[k],e,List.getElem?_eq_getElem hl,hc k _ (List.getElem?_eq_getElem hl)⟩
end
end
section
open Go.RowKit
open Go.RowKit
def ic (xs:List Nat):Array Value:=(xs.map fun (x:Nat)=>Value.int .i64 (x:Int)).toArray
theorem ic_get {xs:List Nat} {k x:Nat} (h:xs[k]?=some x):(ic xs)[k]?=some (.int .i64 (x:Int)):=by simp [ic,h]
theorem AtI.row {w:World} {g:Nat} {t:TypeId} {xs:List Nat} (h:Blk w g t (ic xs)):AtI w g (g+1) (some ⟨g,0,none⟩) xs.length xs :=
 ⟨rfl,fun _=>⟨_,0,rfl,Nat.le_refl _,by omega,fun j x hx=>by rw [h.cell,Nat.zero_add];exact ic_get hx⟩⟩
def Since (w x:World):Prop:=Below w.heap.size w x
theorem Since.size {w x:World} (h:Since w x):w.heap.size≤x.heap.size:=Below.size h
open Go.RowKit
def ivs (xs:List Nat):List Value:=xs.map fun (x:Nat)=>Value.int .i64 (x:Int)
theorem AtI.own {w:World} {base n c:Nat} {e:TypeId} {A:Option Addr} {xs:List Nat} (h:w.ownsRow base e 1 (.slice A n c) n (ivs xs)):AtI w base w.heap.size A n xs:=by
 have hl:xs.length=n:=by have:=h.1;simp [ivs] at this;omega
 refine ⟨hl,fun hn=>?_⟩
 rcases h.2 with ⟨_,h0⟩ | ⟨g,cap,cur,hv,hb,_⟩
 ·omega
 ·injection hv with hA hv2 hv3
  subst hA
  have hlt:=h.lt g rfl
  refine ⟨g,0,rfl,hb,hlt.2,fun j u hu=>?_⟩
  have:=h.cells (g:=g) rfl j (.int .i64 (u:Int)) (by unfold ivs;rw [List.getElem?_map,hu];rfl)
  rwa [zcE] at this
open Go.RowKit
theorem AtI.grown {w w':World} {lo hi n:Nat} {A:Option Addr} {xs:List Nat} {row:Option Nat} (h:AtI w lo hi A n xs) (hg:w.grownBy w' row) (hB:hi≤w.heap.size) (hr:∀ g,row=some g→hi≤g):AtI w' lo hi A n xs :=
 h.keep fun p h1 h2=>World.cell?_of_block (hg.block p.block (by omega) (fun e=>by have:=hr _ e.symm;omega))
open Go.RowKit
open Go.RowKit
theorem AtI.alloc {w:World} {lo hi n:Nat} {A:Option Addr} {xs:List Nat} (h:AtI w lo hi A n xs) (hB:hi≤w.heap.size) (o:Obj):AtI (w.alloc o) lo hi A n xs:=h.keep fun p _ hp=>World.cell?_alloc_lt w o p (by omega)
end
section
theorem zsI {l:List UInt8} {k:Nat} (h:l.length=k):be k (big l)=l:=by subst h;exact be_big l
open Go.RowKit
theorem zje {ops:Array Oper} {rest:List Oper} {o:Oper} {a:Act} {w:World} {Q:Exit→Act→World→Prop} (hgd:o.guard=none) (x:Operand) (ho:o.op = .load 84 x)
  (g:Nat) (hx:a.eval x = .pointer (some ⟨g,0,none⟩)) {t:TypeId} {bs:List UInt8} (h:Blk w g t (rdC bs)) (hl:bs.length=8)
  (hk:wpList Tryz.prog ops Q rest (a.put o.dst (.agg (rdC bs))) w):wpList Tryz.prog ops Q (o::rest) a w :=
 wpList_load_row hgd 84 x ho g hx t (rdC bs) (0,0) _ h Tryz.underlying84 rfl (by rw [zfv hl];kernel_rfl) hk
section
variable {ops:Array Oper} {rest:List Oper} {o:Oper} {a:Act} {w:World} {Q:Exit→Act→World→Prop}
end
open Go.RowKit
open Go.RowKit
open Go.RowKit
open Go.RowKit
open Go.RowKit
end
end Go.Proofs.YtookpplebikfnaaGreatDoor
