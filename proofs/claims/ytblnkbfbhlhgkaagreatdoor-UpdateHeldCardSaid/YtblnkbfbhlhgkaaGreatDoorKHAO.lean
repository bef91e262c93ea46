/-
  How attributes that come in are opened. No condition.
  Plain mathematics of layer 3: what distinguishers are made of, their parts, their order, their texts. Nothing here speaks of the program.
  Plain mathematics of layer 3's texts: what is written of a distinguisher is read as it. Nothing here speaks of the program.
  Distinguishers as values and as blocks: their cells, and when two are equal. No condition.
  What highSize, ofBytes, Make, Parts and Compare of package rd do, in whatever memory. No condition beyond sizes that fit memory.
  What digits.Text and digits.Bytes do: bytes as signs of base 16, and back. No condition beyond sizes that fit memory.
  What digits.Bytes does: the bytes of signs of base 16. No condition beyond sizes that fit memory.
  Texts of any size that fits memory: strings.Cut at one sign, digits.Number, and addr.Parse of a text without a colon. The one condition beside: the library's tables hold what its text lays.
  What textHigh, Text, readHigh, read and Parse of package rd do. The one condition beyond sizes that fit memory: the library's tables hold what its text lays.
  Plain mathematics of layer 7: multicast routes as plain data, which are right, their bytes, and what bytes are one. Nothing here speaks of the program.
  Plain mathematics of layer 7: the keys of leaves, which routes are right, what bytes begin with. Nothing here speaks of the program.
  Plain mathematics of layer 7's texts: unlike routes have unlike texts. Nothing here speaks of the program.
  Parts of aggregates in the midst of a block: those of distinguishers. No condition.
-/
import Derived.Laws.RangeAny
import Derived.Lib.AppendIntMem
import Derived.Deep.RegionHeld3
import Derived.Lib.Builder
import Derived.Lib.IndexBytes
import Derived.Test.YtblnkbfbhlhgkaaGreatDoorKHAN
set_option linter.unusedVariables false
set_option linter.unusedSimpArgs false
namespace Go.Proofs.YtblnkbfbhlhgkaaGreatDoor
section
set_option maxRecDepth 100000
open Go.RowKit Go.ChangeShapes Go.WideShapes Go.ChangeAt
theorem ze6 {H α:Type} [Inhabited α] {ec:TypeId × Value→H} {P:Program} {enc:α→List Value} {m:World→Nat→Nat→α→Prop} {W:α→Prop} {w:World} {t e:TypeId} {K:Nat} (hK:0<K)
  (ht:P.underlying t=some (.slice e)) (ce:P.cellsOf e=K) (hone:∀ x,W x→(enc x).length=K)
  (step:∀ fuel l y,DataW.trod ec P w 0 (fun _=>true) true fuel e l=some y→∃ q,l=enc q∧m w 0 w.heap.size q∧W q)
  {fuel:Nat} {v:Value} {y:DataW H × List MemPlace} (hf:DataW.trod ec P w 0 (fun _=>true) true fuel t [v]=some y) :
  ∃ A n c xs,v = .slice A n c∧RowE enc m W w 0 w.heap.size A n xs∧n≤c∧c≤maxLen:=by
 rcases Go.Deep.open_slice ht hf with ⟨hcs,_⟩ | ⟨a,n,c,m',k,D,Pl,hcs,hb,hl,hm,hmm,_,hx⟩
 ·injection hcs with hcs
  exact ⟨none,0,0,[],hcs,RowE.nil _ _ _ _,by omega,by omega⟩
 ·injection hcs with hcs
  simp only [if_true] at hmm
  have each:∀ i,i<n→∃ q:α,(m w 0 w.heap.size q∧W q)∧∀ j u,(enc q)[j]?=some u→w.cell? (a.add (i*K+j))=some u:=by
   intro i hi
   obtain ⟨cs',h1,h2⟩:=hx i (by omega)
   rw [ce] at h1
   obtain ⟨_,hlen,hcell⟩:=World.cells?_some h1
   obtain ⟨q,hq,hw,hn⟩:=step _ _ _ h2
   refine ⟨q,⟨hw,hn⟩,fun j u hu=>?_⟩
   have hj:j<K:=by have h3:=(List.getElem?_eq_some_iff.1 hu).1;rw [hone q hn] at h3;exact h3
   have hc:=hcell j hj
   rw [hq] at hc
   rw [Go.Deep.add_add] at hc
   rw [hc]
   exact hu
  obtain ⟨q,hq⟩:=Go.Deep.choose_lt each
  refine ⟨some a,n,c,(List.range n).map q,hcs,⟨?_,?_,?_⟩,hl,hm⟩
  ·have hlen:((List.range n).map q).length=n:=by simp
   have hone':∀ x∈(List.range n).map q,(enc x).length=K:=fun x hx=>by
    obtain ⟨i,hi,rfl⟩:=List.mem_map.1 hx
    exact hone _ (hq i (List.mem_range.1 hi)).1.2
   refine ⟨hlen,fun hn=>?_⟩
   obtain ⟨b,o,spot⟩:=a
   have hl0:0<(enc (q 0)).length:=by rw [hone _ (hq 0 (by omega)).1.2];exact hK
   have h00:=(hq 0 (by omega)).2 0 _ (List.getElem?_eq_getElem hl0)
   have hspot:spot=none:=by simpa [Addr.add] using World.cell?_spot h00
   subst hspot
   have hbl:b<w.heap.size:=by have:=block_lt_of_cell h00;simpa [Addr.add] using this
   refine ⟨b,o,rfl,Nat.zero_le _,hbl,fun j u hu=>?_⟩
   have hj:j<n*K:=by have:=(List.getElem?_eq_some_iff.1 hu).1;rw [zfe hone',hlen] at this;exact this
   have hi:j/K<n:=Nat.div_lt_of_lt_mul (by rw [Nat.mul_comm];exact hj)
   have hr0:j%K<K:=Nat.mod_lt _ hK
   have hdm:j/K*K+j%K=j:=by rw [Nat.mul_comm];exact Nat.div_add_mod j K
   have hgi:((List.range n).map q)[j/K]?=some (q (j/K)):=by
    rw [List.getElem?_map,List.getElem?_range hi];rfl
   have hr:j%K<(enc (q (j/K))).length:=by rw [hone _ (hq _ hi).1.2];exact hr0
   have hg:=zgF hone' hgi (List.getElem?_eq_getElem hr)
   rw [hdm,hu] at hg
   have hq':=(hq (j/K) hi).2 (j%K) u (by rw [List.getElem?_eq_getElem hr];exact hg.symm)
   rw [zdi,hdm] at hq'
   exact hq'
  ·intro u hu
   obtain ⟨i,hi,rfl⟩:=List.mem_map.1 hu
   exact (hq i (List.mem_range.1 hi)).1.1
  ·intro u hu
   obtain ⟨i,hi,rfl⟩:=List.mem_map.1 hu
   exact (hq i (List.mem_range.1 hi)).1.2
instance:Inhabited SgP:=⟨⟨false,none,0,0,[]⟩⟩
instance:Inhabited TnP:=⟨⟨false,0,0,0,[],none,0,0,[]⟩⟩
section
variable {H:Type} {ec:TypeId × Value→H} {w:World} {fuel:Nat} {l:List Value} {y:DataW H × List MemPlace}
theorem zqS (h:DataW.trod ec Tryz.prog w 0 (fun _=>true) true fuel 93 l=some y):∃ q:SgP,l=sgL q∧mS w 0 w.heap.size q∧wS q:=by
 obtain ⟨y0,y1,k',hy,hlen,g0,g1⟩:=trod_struct2 Tryz.underlying93 h
 have hlen2:l.length=2:=hlen.trans (by kernel_rfl)
 match l,hlen2 with
 | [v0,v1],_ =>
  have cb:Tryz.prog.cellsOf 4=1:=by kernel_rfl
  have cv:Tryz.prog.cellsOf 91=1:=by kernel_rfl
  have e0:DataW.trod ec Tryz.prog w 0 (fun _=>true) true k' 4 [v0]=some y0:=by
   have h:=g0
   rw [show (Tryz.prog.cellsOf 4)=1 from cb] at h
   exact h
  have e1:DataW.trod ec Tryz.prog w 0 (fun _=>true) true k' 91 [v1]=some y1:=by
   have h:=g1
   rw [show (Tryz.prog.cellsOf 91)=1 from cv] at h
   exact h
  obtain ⟨q0,r0,_⟩:=DataW.trod_bool Tryz.underlying4 e0
  obtain ⟨A,n,c,xs,rfl,hr,hn,_⟩:=ze6 (α:=Int) (enc:=inL) (m:=mI) (W:=wI) (K:=1) (by decide) Tryz.underlying91 (by kernel_rfl) (fun x _=>zgb x)
   (fun fuel l y h=>by
    obtain ⟨q,r,_,_⟩:=DataW.trod_int Tryz.underlying3 h
    exact ⟨q,r,trivial,trivial⟩) e1
  injection r0 with r0
  exact ⟨⟨q0,A,n,c,xs⟩,by rw [r0];rfl,⟨hr.row,hn⟩,trivial⟩
theorem zqC (h:DataW.trod ec Tryz.prog w 0 (fun _=>true) true fuel 88 l=some y):∃ q:TnP,l=tnL q∧mT w 0 w.heap.size q∧wT q:=by
 obtain ⟨xs,n,_,hx,hl,hlen,hfs⟩:=DataW.trod_struct Tryz.underlying88 h
 match xs,hlen with
 | [y0,y1,y2,y3,y4],_ =>
  have g0:=hfs 0 _ rfl
  have g1:=hfs 1 _ rfl
  have g2:=hfs 2 _ rfl
  have g3:=hfs 3 _ rfl
  have g4:=hfs 4 _ rfl
  have ci:Tryz.prog.cellsOf 3=1:=by kernel_rfl
  have cb:Tryz.prog.cellsOf 4=1:=by kernel_rfl
  have ca:Tryz.prog.cellsOf 25=17:=by kernel_rfl
  have cv:Tryz.prog.cellsOf 36=1:=by kernel_rfl
  have e0:DataW.trod ec Tryz.prog w 0 (fun _=>true) true n 4 ((l.drop 0).take 1)=some y0:=by rw [← cb];exact g0
  have e1:DataW.trod ec Tryz.prog w 0 (fun _=>true) true n 3 ((l.drop 1).take 1)=some y1:=by rw [← ci];exact g1
  have e2:DataW.trod ec Tryz.prog w 0 (fun _=>true) true n 3 ((l.drop 2).take 1)=some y2:=by rw [← ci];exact g2
  have e3:DataW.trod ec Tryz.prog w 0 (fun _=>true) true n 25 ((l.drop 3).take 17)=some y3:=by rw [← ca];exact g3
  have e4:DataW.trod ec Tryz.prog w 0 (fun _=>true) true n 36 ((l.drop 20).take 1)=some y4:=by rw [← cv];exact g4
  have hll:l.length=21:=hl.trans (by kernel_rfl)
  obtain ⟨lf,hb0,_⟩:=DataW.trod_bool Tryz.underlying4 e0
  obtain ⟨k,hk,_,wk⟩:=DataW.trod_int Tryz.underlying3 e1
  obtain ⟨lb,hll2,_,wl⟩:=DataW.trod_int Tryz.underlying3 e2
  obtain ⟨s,bs,hs,hbl,hw⟩:=zcZ e3
  obtain ⟨v4,hv4⟩:∃ v4,(l.drop 20).take 1=[v4]:=by
   have hlen:((l.drop 20).take 1).length=1:=by rw [List.length_take,List.length_drop,hll];rfl
   match (l.drop 20).take 1,hlen with
   | [v4],_=>exact ⟨v4,rfl⟩
  rw [hv4] at e4
  have hcs:l = .bool lf :: .int .i64 k :: .int .i64 lb::((.int .i64 s::bvs bs)++[v4]):=by
   have d20:(l.drop 20).take 1=l.drop 20:=List.take_of_length_le (by rw [List.length_drop,hll];decide)
   have s1:l=(l.drop 0).take 1++((l.drop 1).take 1++((l.drop 2).take 1++((l.drop 3).take 17++l.drop 20))):=by
    have a3:l.drop 3=(l.drop 3).take 17++l.drop 20:=by
     conv=>lhs;rw [← List.take_append_drop 17 (l.drop 3),List.drop_drop]
    have a2:l.drop 2=(l.drop 2).take 1++l.drop 3:=by
     conv=>lhs;rw [← List.take_append_drop 1 (l.drop 2),List.drop_drop]
    have a1:l.drop 1=(l.drop 1).take 1++l.drop 2:=by
     conv=>lhs;rw [← List.take_append_drop 1 (l.drop 1),List.drop_drop]
    rw [← a3,← a2,← a1,List.drop_zero,List.take_append_drop]
   rw [s1,hb0,hk,hll2,hs,← d20,hv4]
   rfl
  obtain ⟨A,m,c,rfl⟩:∃ A m c,v4 = .slice A m c:=by
   rcases DataW.trod_slice Tryz.underlying36 e4 with ⟨h,_⟩ | ⟨a,len,cap,_,_,_,_,h,_⟩
   ·injection h with h
    exact ⟨_,_,_,h⟩
   ·injection h with h
    exact ⟨_,_,_,h⟩
  obtain ⟨id,hA,hm⟩:=zm7 Tryz.underlying36 Tryz.underlying5 (by kernel_rfl) e4
  exact ⟨⟨lf,k,lb,s,bs,A,m,c,id⟩,hcs,⟨hA,hm⟩,hbl⟩
theorem zoA:∀ l:List B8,za9 (fun q:B8=>bvs q.1) l=bvs (zbf l)
 | []=>rfl
 | q::r=>by
  show bvs q.1++za9 (fun q:B8=>bvs q.1) r=bvs (q.1++zbf r)
  rw [zoA r]
  simp [bvs]
theorem atE_of {A:Option Addr} {lo hi n:Nat} {l:List B8} (h:AtG (fun q:B8=>bvs q.1) w lo hi A n l):AtE w lo hi A n l:=by
 have hlen:=h.len
 refine ⟨hlen,by rw [zdV,hlen],fun hn=>?_⟩
 obtain ⟨b,o,hA,h1,h2,h3⟩:=h.2 (by omega)
 refine ⟨b,o,hA,h1,h2,fun k u hu=>?_⟩
 refine h3 k (bv u) ?_
 rw [zoA,bvs,List.getElem?_map,hu]
 rfl
instance:Inhabited B8:=⟨⟨[0,0,0,0,0,0,0,0],rfl⟩⟩
theorem zsP (h:DataW.trod ec Tryz.prog w 0 (fun _=>true) true fuel 30 l=some y):∃ p:AtP,l=attL p∧zaA w 0 w.heap.size p∧p.pc≤maxLen∧p.tc≤maxLen:=by
 obtain ⟨xs,n,_,hx,hl,hlen,hfs⟩:=DataW.trod_struct Tryz.underlying30 h
 match xs,hlen with
 | [y0,y1,y2,y3,y4,y5,y6,y7],_ =>
  have g0:=hfs 0 _ rfl
  have g1:=hfs 1 _ rfl
  have g2:=hfs 2 _ rfl
  have g3:=hfs 3 _ rfl
  have g4:=hfs 4 _ rfl
  have g5:=hfs 5 _ rfl
  have g6:=hfs 6 _ rfl
  have g7:=hfs 7 _ rfl
  have ci:Tryz.prog.cellsOf 3=1:=by kernel_rfl
  have ca:Tryz.prog.cellsOf 25=17:=by kernel_rfl
  have c1:Tryz.prog.cellsOf 22=1:=by kernel_rfl
  have c5:Tryz.prog.cellsOf 26=1:=by kernel_rfl
  have c6:Tryz.prog.cellsOf 27=1:=by kernel_rfl
  have c7:Tryz.prog.cellsOf 28=1:=by kernel_rfl
  have e0:DataW.trod ec Tryz.prog w 0 (fun _=>true) true n 3 ((l.drop 0).take 1)=some y0:=by rw [← ci];exact g0
  have e1:DataW.trod ec Tryz.prog w 0 (fun _=>true) true n 22 ((l.drop 1).take 1)=some y1:=by rw [← c1];exact g1
  have e2:DataW.trod ec Tryz.prog w 0 (fun _=>true) true n 3 ((l.drop 2).take 1)=some y2:=by rw [← ci];exact g2
  have e3:DataW.trod ec Tryz.prog w 0 (fun _=>true) true n 3 ((l.drop 3).take 1)=some y3:=by rw [← ci];exact g3
  have e4:DataW.trod ec Tryz.prog w 0 (fun _=>true) true n 25 ((l.drop 4).take 17)=some y4:=by rw [← ca];exact g4
  have e5:DataW.trod ec Tryz.prog w 0 (fun _=>true) true n 26 ((l.drop 21).take 1)=some y5:=by rw [← c5];exact g5
  have e6:DataW.trod ec Tryz.prog w 0 (fun _=>true) true n 27 ((l.drop 22).take 1)=some y6:=by rw [← c6];exact g6
  have e7:DataW.trod ec Tryz.prog w 0 (fun _=>true) true n 28 ((l.drop 23).take 1)=some y7:=by rw [← c7];exact g7
  have hll:l.length=24:=hl.trans (by kernel_rfl)
  have one:∀ k,k<24→∃ v,(l.drop k).take 1=[v]:=fun k hk=>by
   have hlen:((l.drop k).take 1).length=1:=by rw [List.length_take,List.length_drop,hll];omega
   match (l.drop k).take 1,hlen with
   | [v],_=>exact ⟨v,rfl⟩
  obtain ⟨o,ho,_,_⟩:=DataW.trod_int Tryz.underlying3 e0
  obtain ⟨md,hmd,_,_⟩:=DataW.trod_int Tryz.underlying3 e2
  obtain ⟨pf,hpf,_,_⟩:=DataW.trod_int Tryz.underlying3 e3
  obtain ⟨s,bs,hs,hbl,hw⟩:=zcZ e4
  obtain ⟨v1,hv1⟩:=one 1 (by decide)
  obtain ⟨v5,hv5⟩:=one 21 (by decide)
  obtain ⟨v6,hv6⟩:=one 22 (by decide)
  obtain ⟨v7,hv7⟩:=one 23 (by decide)
  rw [hv1] at e1
  rw [hv5] at e5
  rw [hv6] at e6
  rw [hv7] at e7
  have hcs:l = .int .i64 o::v1 :: .int .i64 md :: .int .i64 pf::((.int .i64 s::bvs bs)++[v5,v6,v7]):=by
   have d23:(l.drop 23).take 1=l.drop 23:=List.take_of_length_le (by rw [List.length_drop,hll];decide)
   have a22:l.drop 22=(l.drop 22).take 1++l.drop 23:=by
    conv=>lhs;rw [← List.take_append_drop 1 (l.drop 22),List.drop_drop]
   have a21:l.drop 21=(l.drop 21).take 1++l.drop 22:=by
    conv=>lhs;rw [← List.take_append_drop 1 (l.drop 21),List.drop_drop]
   have a4:l.drop 4=(l.drop 4).take 17++l.drop 21:=by
    conv=>lhs;rw [← List.take_append_drop 17 (l.drop 4),List.drop_drop]
   have a3:l.drop 3=(l.drop 3).take 1++l.drop 4:=by
    conv=>lhs;rw [← List.take_append_drop 1 (l.drop 3),List.drop_drop]
   have a2:l.drop 2=(l.drop 2).take 1++l.drop 3:=by
    conv=>lhs;rw [← List.take_append_drop 1 (l.drop 2),List.drop_drop]
   have a1:l.drop 1=(l.drop 1).take 1++l.drop 2:=by
    conv=>lhs;rw [← List.take_append_drop 1 (l.drop 1),List.drop_drop]
   have a0:l=(l.drop 0).take 1++l.drop 1:=by rw [List.drop_zero,List.take_append_drop]
   rw [a0,a1,a2,a3,a4,a21,a22,← d23,ho,hv1,hmd,hpf,hs,hv5,hv6,hv7]
   rfl
  obtain ⟨pA,pn,pc,path,rfl,hp,hpn,hpc⟩:=ze6 (α:=SgP) (enc:=sgL) (m:=mS) (W:=wS) (K:=2) (by decide) Tryz.underlying22 (by kernel_rfl) (fun x _=>zea x) (fun fuel l y h=>zqS h) e1
  obtain ⟨cA,cn,cc,cl,rfl,hc,hcn,_⟩:=ze6 (α:=Int × List UInt8) (enc:=adL) (m:=mD) (W:=wD) (K:=17) (by decide) Tryz.underlying26 (by kernel_rfl) (fun x hx=>zfn hx)
   (fun fuel l y h=>by obtain ⟨s,bs,h1,h2,_⟩:=zcZ h;exact ⟨(s,bs),h1,trivial,h2⟩) e5
  obtain ⟨eA,en,ec',ex,rfl,he,hen,_⟩:=ze6 (α:=B8) (enc:=fun q:B8=>bvs q.1) (m:=fun _ _ _ _=>True) (W:=fun _=>True) (K:=8) (by decide) Tryz.underlying27 (by kernel_rfl) (fun x _=>by simp [bvs,x.2])
   (fun fuel l y h=>by obtain ⟨bs,h1,h2⟩:=zfq Tryz.underlying116 Tryz.underlying5 (by kernel_rfl) (by kernel_rfl) h;exact ⟨⟨bs,h2⟩,h1,trivial,trivial⟩) e6
  obtain ⟨tA,tn,tc,tl,rfl,htt,htn,htc⟩:=ze6 (α:=TnP) (enc:=tnL) (m:=mT) (W:=wT) (K:=21) (by decide) Tryz.underlying28 (by kernel_rfl) (fun x hx=>zfY hx) (fun fuel l y h=>zqC h) e7
  exact ⟨⟨o,pA,pn,pc,path,md,pf,s,bs,cA,cn,cc,cl,eA,en,ec',ex,tA,tn,tc,tl⟩,hcs,⟨hbl,hp,hc,atE_of he.row,htt,hpn,hcn,hen,htn⟩,hpc,htc⟩
end
end
section
theorem zsM {l:List UInt8} {k:Nat} (h:l.length=k):be k (big l)=l:=by subst h;exact be_big l
open Go.RowKit
theorem zjj {ops:Array Oper} {rest:List Oper} {o:Oper} {a:Act} {w:World} {Q:Exit→Act→World→Prop} (hgd:o.guard=none) (x:Operand) (ho:o.op = .load 95 x)
  (g:Nat) (hx:a.eval x = .pointer (some ⟨g,0,none⟩)) {t:TypeId} {bs:List UInt8} (h:Blk w g t (rdC bs)) (hl:bs.length=8)
  (hk:wpList Tryz.prog ops Q rest (a.put o.dst (.agg (rdC bs))) w):wpList Tryz.prog ops Q (o::rest) a w :=
 wpList_load_row hgd 95 x ho g hx t (rdC bs) (0,0) _ h Tryz.underlying95 rfl (by rw [zfw hl];kernel_rfl) hk
section
variable {ops:Array Oper} {rest:List Oper} {o:Oper} {a:Act} {w:World} {Q:Exit→Act→World→Prop}
end
open Go.RowKit
open Go.RowKit
open Go.RowKit
open Go.RowKit
open Go.RowKit
end
section
structure Mr where
 k:Int
 rd:List UInt8
 a:Int
 ss:Int
 sb:List UInt8
 gs:Int
 gb:List UInt8
 fs:Int
 fb:List UInt8
 key:List UInt8
structure Mr.W (m:Mr):Prop where
 rd:m.rd.length=8
 sb:m.sb.length=16
 gb:m.gb.length=16
 fb:m.fb.length=16
def nRd (k:Int):Bool:=decide (k≠4)
def nAs (k:Int):Bool:=decide (k=2∨k=6∨k=7)
def nAd (k:Int):Bool:=decide (k=3∨k=5∨k=6∨k=7)
def nFr (k:Int):Bool:=decide (k=1∨k=3∨k=4)
def someA (s:Int) (bs:List UInt8):Bool:=zaD s bs&&decide (0<s)
def zuf (s:Int) (bs:List UInt8):Bool:=decide (s=0∧bs=zaz)
def zl9 (ss:Int) (sb:List UInt8) (gs:Int) (gb:List UInt8) (wild:Bool):Bool :=
 zaD ss sb&&zaD gs gb&&!zcv ss sb&&(decide (gs≤0)||zcv gs gb)&&((wild&&decide (ss=0∨gs=0))||decide (0<ss∧ss=gs))
def zod (m:Mr):Bool :=
 decide (1≤m.k∧m.k≤7)&&(nRd m.k||decide (m.rd=zdw))&&(nAs m.k||decide (m.a=0))&&(nAd m.k||(zuf m.ss m.sb&&zuf m.gs m.gb))&&(nFr m.k||zuf m.fs m.fb) &&
  (decide (m.k=4)||decide (m.key=[]))&&decide (0≤m.a∧m.a≤4294967295)&&(!nFr m.k||someA m.fs m.fb)&&(!nAd m.k||zl9 m.ss m.sb m.gs m.gb (decide (m.k=3)))
def zfW (s:Int) (bs:List UInt8):List UInt8:=UInt8.ofNat (8*s.toNat)::zav s bs
def zdK (m:Mr):List UInt8 :=
 m.key++((if nRd m.k then m.rd else [])++((if nAs m.k then be 4 m.a.toNat else [])++((if nAd m.k then zfW m.ss m.sb++zfW m.gs m.gb else [])++(if nFr m.k then zav m.fs m.fb else []))))
def zaE (m:Mr):List UInt8:=UInt8.ofNat m.k.toNat::UInt8.ofNat (zdK m).length::zdK m
def decA:List UInt8→Option ((Int × List UInt8) × List UInt8)
 | []=>none
 | x::r=>if x.toNat%8=0∧zdm ((x.toNat/8:Nat):Int)=true∧x.toNat/8≤r.length then some ((ofS (r.take (x.toNat/8)),ofB (r.take (x.toNat/8))),r.drop (x.toNat/8)) else none
def keyN (b:List UInt8):Nat:=2+(b.getD 1 0).toNat
def zja (k:Int) (b:List UInt8):Option (List UInt8 × List UInt8) :=
 if k=4 then (if 2≤b.length∧keyN b≤b.length then some (b.take (keyN b),b.drop (keyN b)) else none) else some ([],b)
def znw (k:Int) (b:List UInt8):Option (List UInt8 × List UInt8):=if nRd k then (if 8≤b.length then some (b.take 8,b.drop 8) else none) else some (zdw,b)
def zny (k:Int) (b:List UInt8):Option (Int × List UInt8):=if nAs k then (if 4≤b.length then some ((big (b.take 4):Nat),b.drop 4) else none) else some (0,b)
def znz (k:Int) (b:List UInt8):Option (((Int × List UInt8) × (Int × List UInt8)) × List UInt8) :=
 if nAd k then (decA b).bind fun p=>(decA p.2).map fun q=>((p.1,q.1),q.2) else some (((0,zaz),(0,zaz)),b)
def znx (k:Int) (b:List UInt8):Option (Int × List UInt8):=if nFr k then (if zdm (b.length:Nat)=true then some (ofS b,ofB b) else none) else if b=[] then some (0,zaz) else none
def decM (k:Int) (b:List UInt8):Option Mr :=
 (zja k b).bind fun p=>(znw k p.2).bind fun q=>(zny k q.2).bind fun s=>(znz k s.2).bind fun t=>(znx k t.2).map fun f =>
  ⟨k,q.1,s.1,t.1.1.1,t.1.1.2,t.1.2.1,t.1.2.2,f.1,f.2,p.1⟩
theorem zbC {s:Int} {bs:List UInt8} (h:zaD s bs=true):s=0∨s=4∨s=16:=by
 unfold zaD at h
 rw [Bool.and_eq_true] at h
 exact of_decide_eq_true h.1
theorem zdq {s:Int} {bs:List UInt8} (hl:bs.length=16) (h:zaD s bs=true):(zav s bs).length=s.toNat:=by
 unfold zav
 rw [if_pos h,List.length_take,hl]
 rcases zbC h with h | h | h <;> subst h <;> rfl
theorem zkL {s:Int} {bs:List UInt8} (hl:bs.length=16) (h:zaD s bs=true):ofS (zav s bs)=s∧ofB (zav s bs)=bs:=by
 have hn:=zdq hl h
 have hs:=zbC h
 have hz:zdm (((zav s bs).length:Nat):Int)=true:=by rw [hn];rcases hs with h | h | h <;> subst h <;> rfl
 have hd:∀ x∈bs.drop s.toNat,x=0:=by
  unfold zaD at h
  rw [Bool.and_eq_true] at h
  simpa using h.2
 refine ⟨?_,?_⟩
 ·unfold ofS
  rw [if_pos hz,hn]
  rcases hs with h | h | h <;> subst h <;> rfl
 ·unfold ofB
  rw [if_pos hz]
  unfold pad
  rw [hn]
  have e:zav s bs=bs.take s.toNat:=by unfold zav;rw [if_pos h]
  have e2:bs.drop s.toNat=List.replicate (16-s.toNat) 0:=List.eq_replicate_iff.2 ⟨by rw [List.length_drop,hl],hd⟩
  rw [e,← e2,List.take_append_drop]
theorem zmn {s:Int} {bs:List UInt8} (hl:bs.length=16) (h:zaD s bs=true) (r:List UInt8):decA (zfW s bs++r)=some ((s,bs),r):=by
 have hn:=zdq hl h
 obtain ⟨o1,o2⟩:=zkL hl h
 have hs:=zbC h
 have hx:(UInt8.ofNat (8*s.toNat)).toNat=8*s.toNat:=by rcases hs with h | h | h <;> subst h <;> rfl
 have h8:8*s.toNat/8=s.toNat:=by omega
 have e:zfW s bs++r=UInt8.ofNat (8*s.toNat)::(zav s bs++r):=rfl
 rw [e,decA,hx,h8]
 have ht:(zav s bs++r).take s.toNat=zav s bs:=by rw [← hn,List.take_append_of_le_length (Nat.le_refl _),List.take_length]
 have hd:(zav s bs++r).drop s.toNat=r:=by rw [← hn,List.drop_append_of_le_length (Nat.le_refl _),List.drop_length];rfl
 rw [ht,hd,o1,o2,if_pos ⟨by omega,by rcases hs with h | h | h <;> subst h <;> rfl,by rw [List.length_append,hn];omega⟩]
structure zgR (m:Mr):Prop where
 k1:1≤m.k
 k7:m.k≤7
 rd:nRd m.k=false→m.rd=zdw
 as0:nAs m.k=false→m.a=0
 src:nAd m.k=false→m.ss=0∧m.sb=zaz
 grp:nAd m.k=false→m.gs=0∧m.gb=zaz
 fr0:nFr m.k=false→m.fs=0∧m.fb=zaz
 key:m.k≠4→m.key=[]
 a0:0≤m.a
 a32:m.a≤4294967295
 fr:nFr m.k=true→zaD m.fs m.fb=true∧0<m.fs
 fl:nAd m.k=true→zl9 m.ss m.sb m.gs m.gb (decide (m.k=3))=true
theorem zg6 (m:Mr):zod m=true↔zgR m:=by
 unfold zod someA zuf
 simp only [Bool.and_eq_true,Bool.or_eq_true,decide_eq_true_eq,Bool.not_eq_true']
 constructor
 ·rintro ⟨⟨⟨⟨⟨⟨⟨⟨h1,h2⟩,h3⟩,h4⟩,h5⟩,h6⟩,h7⟩,h8⟩,h9⟩
  exact ⟨h1.1,h1.2,fun e=>h2.resolve_left (by rw [e];decide),fun e=>h3.resolve_left (by rw [e];decide),fun e=>(h4.resolve_left (by rw [e];decide)).1,fun e=>(h4.resolve_left (by rw [e];decide)).2,
   fun e=>h5.resolve_left (by rw [e];decide),fun e=>h6.resolve_left e,h7.1,h7.2,fun e=>h8.resolve_left (by rw [e];decide),fun e=>h9.resolve_left (by rw [e];decide)⟩
 ·rintro ⟨k1,k7,rd,as0,src,grp,fr0,key,a0,a32,fr,fl⟩
  refine ⟨⟨⟨⟨⟨⟨⟨⟨⟨k1,k7⟩,?_⟩,?_⟩,?_⟩,?_⟩,?_⟩,⟨a0,a32⟩⟩,?_⟩,?_⟩
  ·cases h:nRd m.k with
   | true=>exact .inl rfl
   | false=>exact .inr (rd h)
  ·cases h:nAs m.k with
   | true=>exact .inl rfl
   | false=>exact .inr (as0 h)
  ·cases h:nAd m.k with
   | true=>exact .inl rfl
   | false=>exact .inr ⟨src h,grp h⟩
  ·cases h:nFr m.k with
   | true=>exact .inl rfl
   | false=>exact .inr (fr0 h)
  ·by_cases h:m.k=4
   ·exact .inl h
   ·exact .inr (key h)
  ·cases h:nFr m.k with
   | true=>exact .inr (fr h)
   | false=>exact .inl rfl
  ·cases h:nAd m.k with
   | true=>exact .inr (fl h)
   | false=>exact .inl rfl
theorem zen {ss gs:Int} {sb gb:List UInt8} {wild:Bool} (h:zl9 ss sb gs gb wild=true):zaD ss sb=true∧zaD gs gb=true:=by
 unfold zl9 at h
 simp only [Bool.and_eq_true] at h
 exact ⟨h.1.1.1.1,h.1.1.1.2⟩
theorem zoD {m:Mr} (w:m.W) (h:zgR m) (hk:m.k=4→2≤m.key.length∧m.key.length=keyN m.key):decM m.k (zdK m)=some m:=by
 obtain ⟨k,rd,a,ss,sb,gs,gb,fs,fb,key⟩:=m
 obtain ⟨w1,w2,w3,w4⟩:=w
 simp only at w1 w2 w3 w4 hk
 have e1:∀ r,zja k (key++r)=some (key,r):=fun r=>by
  unfold zja
  by_cases h4:k=4
  ·obtain ⟨g1,g2⟩:=hk h4
   have hkn:keyN (key++r)=key.length:=by
    unfold keyN at g2 ⊢
    rw [List.getD_eq_getElem?_getD,List.getElem?_append_left (by omega),← List.getD_eq_getElem?_getD,← g2]
   rw [if_pos h4,hkn,if_pos ⟨by simp;omega,by simp⟩,List.take_append_of_le_length (Nat.le_refl _),List.take_length,List.drop_append_of_le_length (Nat.le_refl _),List.drop_length]
   rfl
  ·have:=h.key h4
   simp only at this
   subst this
   rw [if_neg h4];rfl
 have e2:∀ r,znw k ((if nRd k then rd else [])++r)=some (rd,r):=fun r=>by
  unfold znw
  cases hn:nRd k with
  | true =>
   simp only [if_true]
   rw [if_pos (by simp [w1]),List.take_append_of_le_length (by omega),List.take_of_length_le (by omega),List.drop_append_of_le_length (by omega),List.drop_of_length_le (by omega)]
   rfl
  | false =>
   have:=h.rd hn
   simp only at this
   subst this
   rfl
 have e3:∀ r,zny k ((if nAs k then be 4 a.toNat else [])++r)=some (a,r):=fun r=>by
  unfold zny
  cases hn:nAs k with
  | true =>
   have a0:=h.a0
   have a32:=h.a32
   simp only at a0 a32
   have hb:(be 4 a.toNat).length=4:=zb0 4 _
   have hv:=zsL 4 a.toNat (by have:(256:Nat)^4=4294967296:=(by decide);omega)
   simp only [if_true]
   rw [if_pos (by simp [hb]),List.take_append_of_le_length (by omega),List.take_of_length_le (by omega),List.drop_append_of_le_length (by omega),List.drop_of_length_le (by omega),hv,Int.toNat_of_nonneg a0]
   rfl
  | false =>
   have:=h.as0 hn
   simp only at this
   subst this
   rfl
 have e4:∀ r,znz k ((if nAd k then zfW ss sb++zfW gs gb else [])++r)=some (((ss,sb),(gs,gb)),r):=fun r=>by
  unfold znz
  cases hn:nAd k with
  | true =>
   obtain ⟨r1,r2⟩:=zen (h.fl hn)
   simp only at r1 r2
   simp only [if_true]
   rw [List.append_assoc,zmn w2 r1,Option.bind_some,zmn w3 r2]
   rfl
  | false =>
   obtain ⟨s1,s2⟩:=h.src hn
   obtain ⟨g1,g2⟩:=h.grp hn
   simp only at s1 s2 g1 g2
   subst s1 s2 g1 g2
   rfl
 have e5:znx k (if nFr k then zav fs fb else [])=some (fs,fb):=by
  unfold znx
  cases hn:nFr k with
  | true =>
   obtain ⟨r1,r2⟩:=h.fr hn
   simp only at r1 r2
   obtain ⟨o1,o2⟩:=zkL w4 r1
   have hz:=zdq w4 r1
   simp only [if_true]
   rw [if_pos (by rw [hz];rcases zbC r1 with h | h | h <;> subst h <;> rfl),o1,o2]
  | false =>
   obtain ⟨s1,s2⟩:=h.fr0 hn
   simp only at s1 s2
   subst s1 s2
   rfl
 unfold decM zdK
 simp only
 rw [e1,Option.bind_some,e2,Option.bind_some,e3,Option.bind_some,e4,Option.bind_some,e5]
 rfl
theorem zkK (x:List UInt8) (h:zdm ((x.length:Nat):Int)=true):zaD (ofS x) (ofB x)=true∧(ofB x).length=16∧zav (ofS x) (ofB x)=x:=by
 have hs:ofS x=(x.length:Nat)∧ofB x=pad x:=by unfold ofS ofB;rw [if_pos h,if_pos h];exact ⟨rfl,rfl⟩
 have hn:x.length=0∨x.length=4∨x.length=16:=by
  have:=of_decide_eq_true h
  omega
 have hp:(pad x).length=16:=by unfold pad;simp;omega
 have hr:zaD (x.length:Nat) (pad x)=true:=by
  unfold zaD
  rw [h,Bool.true_and]
  simp only [Int.toNat_natCast,List.all_eq_true,beq_iff_eq]
  intro y hy
  unfold pad at hy
  rw [List.drop_append_of_le_length (Nat.le_refl _),List.drop_length,List.nil_append] at hy
  exact (List.mem_replicate.1 hy).2
 rw [hs.1,hs.2]
 refine ⟨hr,hp,?_⟩
 unfold zav
 rw [if_pos hr,Int.toNat_natCast]
 unfold pad
 rw [List.take_append_of_le_length (Nat.le_refl _),List.take_length]
theorem zkd {b r:List UInt8} {p:Int × List UInt8} (h:decA b=some (p,r)):zaD p.1 p.2=true∧p.2.length=16∧zfW p.1 p.2++r=b:=by
 cases b with
 | nil=>cases h
 | cons x y =>
  rw [decA] at h
  split at h
  ·rename_i hc
   obtain ⟨h1,h2,h3⟩:=hc
   have hl:(y.take (x.toNat/8)).length=x.toNat/8:=by rw [List.length_take];omega
   obtain ⟨o1,o2,o3⟩:=zkK (y.take (x.toNat/8)) (by rw [hl];exact h2)
   injection h with h
   obtain ⟨rfl,rfl⟩:=Prod.mk.inj h
   refine ⟨o1,o2,?_⟩
   unfold zfW
   rw [o3]
   have hs:ofS (y.take (x.toNat/8))=((x.toNat/8:Nat):Int):=by unfold ofS;rw [hl,if_pos h2]
   rw [hs,Int.toNat_natCast]
   have hx:UInt8.ofNat (8*(x.toNat/8))=x:=by
    apply UInt8.toNat_inj.1
    have:=x.toNat_lt
    simp;omega
   rw [hx,List.cons_append,List.take_append_drop]
  ·cases h
theorem zoF {k:Int} {b:List UInt8} {m:Mr} (h:decM k b=some m):m.k=k∧zdK m=b∧m.W:=by
 unfold decM at h
 cases e1:zja k b with
 | none=>rw [e1] at h;cases h
 | some p =>
  obtain ⟨key,b1⟩:=p
  rw [e1,Option.bind_some] at h
  simp only at h
  cases e2:znw k b1 with
  | none=>rw [e2] at h;cases h
  | some q =>
   obtain ⟨rd,b2⟩:=q
   rw [e2,Option.bind_some] at h
   simp only at h
   cases e3:zny k b2 with
   | none=>rw [e3] at h;cases h
   | some q =>
    obtain ⟨a,b3⟩:=q
    rw [e3,Option.bind_some] at h
    simp only at h
    cases e4:znz k b3 with
    | none=>rw [e4] at h;cases h
    | some q =>
     obtain ⟨⟨⟨ss,sb⟩,gs,gb⟩,b4⟩:=q
     rw [e4,Option.bind_some] at h
     simp only at h
     cases e5:znx k b4 with
     | none=>rw [e5] at h;cases h
     | some q =>
      obtain ⟨fs,fb⟩:=q
      rw [e5,Option.map_some] at h
      injection h with h
      subst h
      have f1:key++b1=b:=by
       unfold zja at e1
       split at e1
       ·split at e1
        ·injection e1 with e1
         obtain ⟨rfl,rfl⟩:=Prod.mk.inj e1
         exact List.take_append_drop _ _
        ·cases e1
       ·injection e1 with e1
        obtain ⟨rfl,rfl⟩:=Prod.mk.inj e1
        rfl
      have f2:(if nRd k then rd else [])++b2=b1∧rd.length=8:=by
       unfold znw at e2
       cases hn:nRd k with
       | true =>
        rw [hn] at e2
        simp only [if_true] at e2
        split at e2
        ·injection e2 with e2
         obtain ⟨rfl,rfl⟩:=Prod.mk.inj e2
         exact ⟨List.take_append_drop _ _,by rw [List.length_take];omega⟩
        ·cases e2
       | false =>
        rw [hn] at e2
        simp only [Bool.false_eq_true,if_false] at e2
        injection e2 with e2
        obtain ⟨rfl,rfl⟩:=Prod.mk.inj e2
        exact ⟨rfl,rfl⟩
      have f3:(if nAs k then be 4 a.toNat else [])++b3=b2:=by
       unfold zny at e3
       cases hn:nAs k with
       | true =>
        rw [hn] at e3
        simp only [if_true] at e3
        split at e3
        ·injection e3 with e3
         obtain ⟨rfl,rfl⟩:=Prod.mk.inj e3
         simp only [if_true,Int.toNat_natCast]
         rw [zsM (by rw [List.length_take];omega),List.take_append_drop]
        ·cases e3
       | false =>
        rw [hn] at e3
        simp only [Bool.false_eq_true,if_false] at e3
        injection e3 with e3
        obtain ⟨rfl,rfl⟩:=Prod.mk.inj e3
        rfl
      have f4:(if nAd k then zfW ss sb++zfW gs gb else [])++b4=b3∧sb.length=16∧gb.length=16:=by
       unfold znz at e4
       cases hn:nAd k with
       | true =>
        rw [hn] at e4
        simp only [if_true] at e4
        cases g1:decA b3 with
        | none=>rw [g1] at e4;cases e4
        | some p =>
         obtain ⟨p1,r1⟩:=p
         rw [g1,Option.bind_some] at e4
         simp only at e4
         cases g2:decA r1 with
         | none=>rw [g2] at e4;cases e4
         | some q =>
          obtain ⟨q1,r2⟩:=q
          rw [g2,Option.map_some] at e4
          injection e4 with e4
          simp only [Prod.mk.injEq] at e4
          obtain ⟨⟨rfl,rfl⟩,rfl⟩:=e4
          obtain ⟨_,l1,w1⟩:=zkd g1
          obtain ⟨_,l2,w2⟩:=zkd g2
          simp only [if_true]
          exact ⟨by rw [List.append_assoc,w2,w1],l1,l2⟩
       | false =>
        rw [hn] at e4
        simp only [Bool.false_eq_true,if_false] at e4
        injection e4 with e4
        simp only [Prod.mk.injEq] at e4
        obtain ⟨⟨⟨rfl,rfl⟩,rfl,rfl⟩,rfl⟩:=e4
        exact ⟨rfl,rfl,rfl⟩
      have f5:(if nFr k then zav fs fb else [])=b4∧fb.length=16:=by
       unfold znx at e5
       cases hn:nFr k with
       | true =>
        rw [hn] at e5
        simp only [if_true] at e5
        split at e5
        ·rename_i hz
         injection e5 with e5
         obtain ⟨rfl,rfl⟩:=Prod.mk.inj e5
         obtain ⟨_,o2,o3⟩:=zkK b4 hz
         simp only [if_true]
         exact ⟨o3,o2⟩
        ·cases e5
       | false =>
        rw [hn] at e5
        simp only [Bool.false_eq_true,if_false] at e5
        split at e5
        ·rename_i hz
         injection e5 with e5
         obtain ⟨rfl,rfl⟩:=Prod.mk.inj e5
         exact ⟨by rw [hz];rfl,rfl⟩
        ·cases e5
      refine ⟨rfl,?_,f2.2,f4.2.1,f4.2.2,f5.2⟩
      unfold zdK
      simp only
      rw [f5.1,f4.1,f3,f2.1,f1]
def zhx (m:Mr) (size:Int):Bool:=decide ((m.ss=0∨m.ss=size)∧(m.gs=0∨m.gs=size))
def keyR (size:Int):List UInt8→Bool
 | x::y::b=>decide (x.toNat=2∨x.toNat=3)&&decide (b.length=y.toNat)&&(match decM (x.toNat:Nat) b with | some m=>zod m&&zhx m size | none=>false)
 | _=>false
def keyM (key:List UInt8):Bool:=keyR 4 key||keyR 16 key
def zbr (m:Mr):Bool:=zod m&&(!decide (m.k=4)||keyM m.key)
def zhw (m:Mr) (size:Int):Bool:=if m.k=4 then keyR size m.key else zhx m size
theorem zdg (s:Int) {bs:List UInt8} (hl:bs.length=16):(zav s bs).length≤16:=by
 unfold zav
 split
 ·rw [List.length_take];omega
 ·simp
theorem zk9 {m:Mr} (w:m.W):(zdK m).length≤m.key.length+62:=by
 have h1:=zdg m.ss w.sb
 have h2:=zdg m.gs w.gb
 have h3:=zdg m.fs w.fb
 have h4:=w.rd
 unfold zdK
 cases nRd m.k <;> cases nAs m.k <;> cases nAd m.k <;> cases nFr m.k <;> simp [zfW,zb0] <;> omega
theorem zbo {n:Nat} (h:n<256):(UInt8.ofNat n).toNat=n:=by simp;omega
theorem zcf (x:UInt8):UInt8.ofNat x.toNat=x:=by
 apply UInt8.toNat_inj.1
 have:=x.toNat_lt
 simp
theorem zkS (size:Int) (key:List UInt8):keyR size key=true↔∃ m:Mr,m.W∧zgR m∧(m.k=2∨m.k=3)∧zhx m size=true∧zaE m=key:=by
 constructor
 ·intro h
  match key,h with
  | x::y::b,h =>
   unfold keyR at h
   simp only [Bool.and_eq_true,decide_eq_true_eq] at h
   obtain ⟨⟨hx,hy⟩,h⟩:=h
   cases hd:decM (x.toNat:Nat) b with
   | none=>rw [hd] at h;cases h
   | some m =>
    rw [hd] at h
    simp only [Bool.and_eq_true] at h
    obtain ⟨hk,hb,hw⟩:=zoF hd
    refine ⟨m,hw,(zg6 m).1 h.1,by rw [hk];omega,h.2,?_⟩
    unfold zaE
    rw [hk,hb,hy,Int.toNat_natCast,zcf,zcf]
 ·rintro ⟨m,hw,hr,hk,hs,rfl⟩
  have hkey:=hr.key (by omega)
  have hl:=zk9 hw
  rw [hkey] at hl
  simp only [List.length_nil,Nat.zero_add] at hl
  have hkn:(UInt8.ofNat m.k.toNat).toNat=m.k.toNat:=zbo (by omega)
  unfold zaE
  rw [keyR,hkn,zbo (by omega)]
  have hc:((m.k.toNat:Nat):Int)=m.k:=by omega
  rw [hc,zoD hw hr (by omega)]
  simp only [(zg6 m).2 hr,hs,Bool.and_true,Bool.and_eq_true,decide_eq_true_eq]
  exact ⟨by omega,trivial⟩
theorem zmX {m:Mr} (hr:zgR m) (hk:m.k=2∨m.k=3):zhx m 4=true∨zhx m 16=true:=by
 unfold zhx
 simp only [decide_eq_true_eq]
 rcases hk with hk | hk
 ·have h1:=(hr.src (by rw [hk];rfl)).1
  have h2:=(hr.grp (by rw [hk];rfl)).1
  exact .inl ⟨.inl h1,.inl h2⟩
 ·have hf:=hr.fl (by rw [hk];rfl)
  obtain ⟨r1,r2⟩:=zen hf
  unfold zl9 at hf
  simp only [Bool.and_eq_true,Bool.or_eq_true,decide_eq_true_eq] at hf
  have h3:=hf.2
  rcases zbC r1 with a | a | a <;> rcases zbC r2 with b | b | b <;> rw [a,b] at h3 ⊢ <;> simp at h3 ⊢
theorem zia (key:List UInt8):keyM key=true↔∃ m:Mr,m.W∧zgR m∧(m.k=2∨m.k=3)∧zaE m=key:=by
 unfold keyM
 rw [Bool.or_eq_true,zkS,zkS]
 constructor
 ·rintro (⟨m,h1,h2,h3,_,h5⟩ | ⟨m,h1,h2,h3,_,h5⟩) <;> exact ⟨m,h1,h2,h3,h5⟩
 ·rintro ⟨m,h1,h2,h3,h5⟩
  rcases zmX h2 h3 with h | h
  ·exact .inl ⟨m,h1,h2,h3,h,h5⟩
  ·exact .inr ⟨m,h1,h2,h3,h,h5⟩
structure zcJ (m:Mr):Prop where
 core:zgR m
 key:m.k=4→keyM m.key=true
theorem zbH (m:Mr):zbr m=true↔zcJ m:=by
 unfold zbr
 rw [Bool.and_eq_true,Bool.or_eq_true,zg6,Bool.not_eq_true',decide_eq_false_iff_not]
 exact ⟨fun h=>⟨h.1,fun e=>h.2.resolve_left (fun n=>n e)⟩,fun h=>⟨h.core,(Decidable.em (m.k=4)).symm.imp id h.key⟩⟩
theorem znh {key:List UInt8} (h:keyM key=true):2≤key.length∧key.length=keyN key∧key.length≤64:=by
 obtain ⟨m,hw,hr,hk,rfl⟩:=(zia key).1 h
 have hl:=zk9 hw
 rw [hr.key (by omega)] at hl
 simp only [List.length_nil,Nat.zero_add] at hl
 unfold zaE keyN
 simp only [List.length_cons,List.getD_cons_succ,List.getD_cons_zero]
 rw [zbo (by omega)]
 omega
theorem zgN {m:Mr} (w:m.W) (h:zcJ m):decM m.k (zdK m)=some m :=
 zoD w h.core (fun e=>by have:=znh (h.key e);exact ⟨this.1,this.2.1⟩)
theorem zjf {m:Mr} (w:m.W) (h:zcJ m):(zdK m).length≤108:=by
 have hl:=zk9 w
 by_cases e:m.k=4
 ·have h1:=znh (h.key e)
  have h2:=zdg m.fs w.fb
  unfold zdK
  rw [e,show nRd 4=false from rfl,show nAs 4=false from rfl,show nAd 4=false from rfl,show nFr 4=true from rfl]
  simp
  omega
 ·rw [h.core.key e] at hl;simp at hl;omega
theorem zp6 {m o:Mr} (w:m.W) (w':o.W) (h:zcJ m) (h':zcJ o) (e:zaE m=zaE o):m=o:=by
 unfold zaE at e
 injection e with e1 e2
 injection e2 with _ e2
 have hk:m.k=o.k:=by
  have h1:=congrArg UInt8.toNat e1
  have a1:=h.core.k1
  have a7:=h.core.k7
  have b1:=h'.core.k1
  have b7:=h'.core.k7
  rw [zbo (by omega),zbo (by omega)] at h1
  omega
 have d1:=zgN w h
 have d2:=zgN w' h'
 rw [e2,hk,d2] at d1
 injection d1 with d1
 exact d1.symm
def zlC (size:Int):List UInt8→Option Mr
 | x::y::r=>(decM (x.toNat:Nat) (r.take y.toNat)).filter (fun m=>zbr m&&zhw m size)
 | _=>none
def zfG (b:List UInt8):Prop:=b.length<2∨b.length-2<(b.getD 1 0).toNat
instance (b:List UInt8):Decidable (zfG b):=inferInstanceAs (Decidable (_∨_))
def zbL (b:List UInt8) (size:Int):Int:=if ¬ (size=4∨size=16) then 1 else if zfG b then 3 else if (zlC size b).isSome then 0 else 4
def mr0:Mr:=⟨0,zdw,0,0,zaz,0,zaz,0,zaz,[]⟩
def zc1 (b:List UInt8) (size:Int):Mr:=if zbL b size=0 then (zlC size b).getD mr0 else mr0
def zbG (b:List UInt8) (size:Int):Nat:=if zbL b size=0 then keyN b else 0
theorem zqF {b:List UInt8} {size:Int} {m:Mr} (h:zlC size b=some m) (hs:¬ zfG b):m.W∧zcJ m∧zhw m size=true∧zaE m=b.take (keyN b):=by
 match b,h with
 | x::y::r,h =>
  unfold zlC at h
  rw [Option.filter_eq_some_iff] at h
  obtain ⟨hd,hp⟩:=h
  rw [Bool.and_eq_true] at hp
  obtain ⟨hk,hb,hw⟩:=zoF hd
  refine ⟨hw,(zbH m).1 hp.1,hp.2,?_⟩
  have hl:(r.take y.toNat).length=y.toNat:=by
   unfold zfG at hs
   simp only [List.length_cons,List.getD_cons_succ,List.getD_cons_zero,not_or] at hs
   rw [List.length_take];omega
  unfold zaE keyN
  rw [hb,hk,hl,Int.toNat_natCast,zcf,zcf]
  simp only [List.getD_cons_succ,List.getD_cons_zero]
  rw [Nat.add_comm];rfl
theorem zg3 {m:Mr} (w:m.W) (h:zcJ m) {size:Int} (hs:zhw m size=true) (r:List UInt8):zlC size (zaE m++r)=some m∧¬ zfG (zaE m++r)∧keyN (zaE m++r)=(zaE m).length:=by
 have hl:=zjf w h
 have e:zaE m++r=UInt8.ofNat m.k.toNat::UInt8.ofNat (zdK m).length::(zdK m++r):=rfl
 have a1:=h.core.k1
 have a7:=h.core.k7
 have hc:((m.k.toNat:Nat):Int)=m.k:=by omega
 rw [e]
 refine ⟨?_,?_,?_⟩
 ·rw [zlC,zbo (n:=m.k.toNat) (by omega),zbo (n:=(zdK m).length) (by omega),hc,List.take_append_of_le_length (Nat.le_refl _),List.take_length,zgN w h,Option.filter_some,(zbH m).2 h,hs]
  rfl
 ·unfold zfG
  simp only [List.length_cons,List.getD_cons_succ,List.getD_cons_zero,List.length_append]
  rw [zbo (by omega)]
  omega
 ·unfold keyN zaE
  simp only [List.length_cons,List.getD_cons_succ,List.getD_cons_zero]
  rw [zbo (by omega)]
  omega
theorem zew {b:List UInt8} {size:Int} (hz:size=4∨size=16) {m:Mr}:(zbL b size=0∧zc1 b size=m)↔(¬ zfG b∧m.W∧zcJ m∧zhw m size=true∧zaE m=b.take (keyN b)):=by
 constructor
 ·rintro ⟨h1,h2⟩
  unfold zc1 at h2
  rw [if_pos h1] at h2
  unfold zbL at h1
  rw [if_neg (fun n=>n hz)] at h1
  split at h1
  ·cases h1
  ·rename_i hs
   split at h1
   ·rename_i hg
    cases ht:zlC size b with
    | none=>rw [ht] at hg;cases hg
    | some x =>
     rw [ht] at h2
     simp only [Option.getD_some] at h2
     subst h2
     exact ⟨hs,zqF ht hs⟩
   ·cases h1
 ·rintro ⟨hs,hw,hr,hz2,hb⟩
  have hg:zlC size b=some m:=by
   have h1:=(zg3 hw hr hz2 (b.drop (keyN b))).1
   rwa [hb,List.take_append_drop] at h1
  have he:zbL b size=0:=by
   unfold zbL
   rw [if_neg (fun n=>n hz),if_neg hs,hg]
   rfl
  exact ⟨he,by unfold zc1;rw [if_pos he,hg];rfl⟩
end
section
open Go.RowKit
section
variable {ops:Array Oper} {rest:List Oper} {o:Oper} {a:Act} {w:World} {Q:Exit→Act→World→Prop}
end
theorem zhC (bs:List UInt8):(bvs bs).toArray=rdC bs:=rfl
end
end Go.Proofs.YtblnkbfbhlhgkaaGreatDoor
