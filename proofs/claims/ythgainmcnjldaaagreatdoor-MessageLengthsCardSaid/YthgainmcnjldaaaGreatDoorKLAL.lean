/-
  The table of known kinds; what None, flagsOf, fit and with of package attr do, in whatever memory. The one condition: the table holds what its text lays.
  How rows of attributes that come in are opened, and the table of known kinds as it is laid. No condition.
  How attributes that come in are opened. No condition.
  Plain mathematics of layer 3: what distinguishers are made of, their parts, their order, their texts. Nothing here speaks of the program.
  Plain mathematics of layer 3's texts: what is written of a distinguisher is read as it. Nothing here speaks of the program.
  Distinguishers as values and as blocks: their cells, and when two are equal. No condition.
  What highSize, ofBytes, Make, Parts and Compare of package rd do, in whatever memory. No condition beyond sizes that fit memory.
  What digits.Text and digits.Bytes do: bytes as signs of base 16, and back. No condition beyond sizes that fit memory.
  What digits.Bytes does: the bytes of signs of base 16. No condition beyond sizes that fit memory.
  Texts of any size that fits memory: strings.Cut at one sign, digits.Number, and addr.Parse of a text without a colon. The one condition beside: the library's tables hold what its text lays.
  What textHigh, Text, readHigh, read and Parse of package rd do. The one condition beyond sizes that fit memory: the library's tables hold what its text lays.
-/
import Derived.Deep.Slices
import Derived.Deep.Strs
import Derived.Lib.SmallJoins
import Derived.Shelf.Vars
import Derived.Laws.RangeAny
import Derived.Lib.AppendIntMem
import Derived.Deep.RegionHeld3
import Derived.Lib.Builder
import Derived.Lib.IndexBytes
import Derived.Test.YthgainmcnjldaaaGreatDoorKLAK
set_option linter.unusedVariables false
set_option linter.unusedSimpArgs false
namespace Go.Proofs.YthgainmcnjldaaaGreatDoor
section
open Go.RowKit
def knL:List Value:=[.int .i64 1,.int .i64 64,.int .i64 2,.int .i64 64,.int .i64 4,.int .i64 128,.int .i64 5,.int .i64 64,.int .i64 9,.int .i64 128,.int .i64 10,.int .i64 128,.int .i64 16,.int .i64 192,.int .i64 22,.int .i64 192]
def zfd (w:World):Prop:=w.rangeAt 1 0 knL
theorem zfd.below {w w':World} (h:zfd w) (hb:Below w.heap.size w w'):zfd w':=fun j u hu=>by
 have h1:=h j u hu
 rw [hb.cell (World.block_lt_of_cell? _ _ h1)]
 exact h1
theorem ztB:(Tryz.prog.info? 209).map (·.size)=some knL.length:=by kernel_rfl
theorem zhJ {ops:Array Oper} {rest:List Oper} {o:Oper} {a:Act} {w:World} {Q:Exit→Act→World→Prop} (hgd:o.guard=none) (x:Operand) (ho:o.op = .load 209 x) (hx:a.eval x = .pointer (some ⟨1,0,none⟩)) (h:zfd w)
  (hk:wpList Tryz.prog ops Q rest (a.put o.dst (.agg #[.int .i64 1,.int .i64 64,.int .i64 2,.int .i64 64,.int .i64 4,.int .i64 128,.int .i64 5,.int .i64 64,.int .i64 9,.int .i64 128,.int .i64 10,.int .i64 128,.int .i64 16,.int .i64 192,.int .i64 22,.int .i64 192])) w):wpList Tryz.prog ops Q (o::rest) a w :=
 wpList_load_mid hgd 209 x ho _ 0 hx knL _ h Tryz.underlying209 rfl ztB hk
theorem zpT (w:World):(Instr.index 209 (.agg #[.int .i64 1,.int .i64 64,.int .i64 2,.int .i64 64,.int .i64 4,.int .i64 128,.int .i64 5,.int .i64 64,.int .i64 9,.int .i64 128,.int .i64 10,.int .i64 128,.int .i64 16,.int .i64 192,.int .i64 22,.int .i64 192]) (.int .i64 0)).run Tryz.prog w = .ok (.agg #[.int .i64 1,.int .i64 64]) w:=by kernel_rfl
theorem zpS (w:World):(Instr.index 209 (.agg #[.int .i64 1,.int .i64 64,.int .i64 2,.int .i64 64,.int .i64 4,.int .i64 128,.int .i64 5,.int .i64 64,.int .i64 9,.int .i64 128,.int .i64 10,.int .i64 128,.int .i64 16,.int .i64 192,.int .i64 22,.int .i64 192]) (.int .i64 1)).run Tryz.prog w = .ok (.agg #[.int .i64 2,.int .i64 64]) w:=by kernel_rfl
theorem zpR (w:World):(Instr.index 209 (.agg #[.int .i64 1,.int .i64 64,.int .i64 2,.int .i64 64,.int .i64 4,.int .i64 128,.int .i64 5,.int .i64 64,.int .i64 9,.int .i64 128,.int .i64 10,.int .i64 128,.int .i64 16,.int .i64 192,.int .i64 22,.int .i64 192]) (.int .i64 2)).run Tryz.prog w = .ok (.agg #[.int .i64 4,.int .i64 128]) w:=by kernel_rfl
theorem zpQ (w:World):(Instr.index 209 (.agg #[.int .i64 1,.int .i64 64,.int .i64 2,.int .i64 64,.int .i64 4,.int .i64 128,.int .i64 5,.int .i64 64,.int .i64 9,.int .i64 128,.int .i64 10,.int .i64 128,.int .i64 16,.int .i64 192,.int .i64 22,.int .i64 192]) (.int .i64 3)).run Tryz.prog w = .ok (.agg #[.int .i64 5,.int .i64 64]) w:=by kernel_rfl
theorem zpP (w:World):(Instr.index 209 (.agg #[.int .i64 1,.int .i64 64,.int .i64 2,.int .i64 64,.int .i64 4,.int .i64 128,.int .i64 5,.int .i64 64,.int .i64 9,.int .i64 128,.int .i64 10,.int .i64 128,.int .i64 16,.int .i64 192,.int .i64 22,.int .i64 192]) (.int .i64 4)).run Tryz.prog w = .ok (.agg #[.int .i64 9,.int .i64 128]) w:=by kernel_rfl
theorem zpO (w:World):(Instr.index 209 (.agg #[.int .i64 1,.int .i64 64,.int .i64 2,.int .i64 64,.int .i64 4,.int .i64 128,.int .i64 5,.int .i64 64,.int .i64 9,.int .i64 128,.int .i64 10,.int .i64 128,.int .i64 16,.int .i64 192,.int .i64 22,.int .i64 192]) (.int .i64 5)).run Tryz.prog w = .ok (.agg #[.int .i64 10,.int .i64 128]) w:=by kernel_rfl
theorem zpN (w:World):(Instr.index 209 (.agg #[.int .i64 1,.int .i64 64,.int .i64 2,.int .i64 64,.int .i64 4,.int .i64 128,.int .i64 5,.int .i64 64,.int .i64 9,.int .i64 128,.int .i64 10,.int .i64 128,.int .i64 16,.int .i64 192,.int .i64 22,.int .i64 192]) (.int .i64 6)).run Tryz.prog w = .ok (.agg #[.int .i64 16,.int .i64 192]) w:=by kernel_rfl
theorem zpM (w:World):(Instr.index 209 (.agg #[.int .i64 1,.int .i64 64,.int .i64 2,.int .i64 64,.int .i64 4,.int .i64 128,.int .i64 5,.int .i64 64,.int .i64 9,.int .i64 128,.int .i64 10,.int .i64 128,.int .i64 16,.int .i64 192,.int .i64 22,.int .i64 192]) (.int .i64 7)).run Tryz.prog w = .ok (.agg #[.int .i64 22,.int .i64 192]) w:=by kernel_rfl
def zhO:AtP:=⟨0,none,0,0,[],-1,-1,0,zas,none,0,0,[],none,0,0,[],none,0,0,[]⟩
theorem zqF:attC zhO=#[.int .i64 0,.slice none 0 0,.int .i64 (-1),.int .i64 (-1),.int .i64 0,.int .u8 0,.int .u8 0,.int .u8 0,.int .u8 0,.int .u8 0,.int .u8 0,.int .u8 0,.int .u8 0,.int .u8 0,.int .u8 0,.int .u8 0,.int .u8 0,.int .u8 0,.int .u8 0,.int .u8 0,.int .u8 0,.slice none 0 0,.slice none 0 0,.slice none 0 0]:=by kernel_rfl
theorem zrE:zhO.ats=zkp:=rfl
theorem zpq (w:World) (lo hi:Nat):zaG w lo hi zhO :=
 ⟨rfl,RowE.nil _ _ _ _,RowE.nil _ _ _ _,AtE.nil _ _ _ _,RowE.nil _ _ _ _,Nat.le_refl _,Nat.le_refl _,Nat.le_refl _,Nat.le_refl _⟩
theorem zrn {fn:Func} {R:Ending→World→Prop} {a:Act} {w:World} {q:Tmp} {g:Nat} {t:TypeId} {p:AtP} (hf:fn.results=#[.cell q 46])
  (hp:a.tmps.getD q undef = .pointer (some ⟨g,0,none⟩)) (h:Blk w g t (attC p)) (hl:p.ob.length=16) (hd:a.defers=[]) (hR:R (.returned (.agg (attC p))) w) :
  bodyPost Tryz.prog fn R .ret a w:=by
 refine bodyPost_ret (v:=.agg (attC p)) ?_ hd hR
 have hp':a.tmps[q]?.getD undef = .pointer (some ⟨g,0,none⟩):=by simpa using hp
 simp [results,hf,hp',asAddr,zmO (zaj (l:=attL p) h) hl]
theorem zfe {ops:Array Oper} {rest:List Oper} {o:Oper} {a:Act} {w:World} {Q:Exit→Act→World→Prop} (hgd:o.guard=none) (x y:Operand) (ho:o.op = .store 46 x y) (g:Nat) (hx:a.eval x = .pointer (some ⟨g,0,none⟩)) (hy:a.eval y = .agg #[.int .i64 0,.slice none 0 0,.int .i64 (-1),.int .i64 (-1),.int .i64 0,.int .u8 0,.int .u8 0,.int .u8 0,.int .u8 0,.int .u8 0,.int .u8 0,.int .u8 0,.int .u8 0,.int .u8 0,.int .u8 0,.int .u8 0,.int .u8 0,.int .u8 0,.int .u8 0,.int .u8 0,.int .u8 0,.slice none 0 0,.slice none 0 0,.slice none 0 0]) {t:TypeId} {old:Array Value} (h:Blk w g t old) (hold:old.size=24)
  (hk:∀ w',Blk w' g t (attC zhO)→w.grownBy w' (some g)→wpList Tryz.prog ops Q rest (a.put o.dst undef) w'):wpList Tryz.prog ops Q (o::rest) a w :=
 zgy hgd x y ho g hx zhO (hy.trans (congrArg Value.agg zqF.symm)) rfl h hold hk
set_option maxRecDepth 20000 in
theorem zmH (w:World):Calls Tryz.prog 67 #[] w fun e w'=>e = .returned (.agg (attC zhO))∧Below w.heap.size w w':=by
 have B1:Hid (Blk (w.alloc (.cells zAtt 46)) w.heap.size 46 zAtt):=hide (Blk.new w _ _)
 have W1:Hid (Below w.heap.size w (w.alloc (.cells zAtt 46))):=hide ((Below.refl _ _).alloc (Nat.le_refl _) _)
 go_enter Tryz.func67,Tryz.ntmps67
 go_wp2_with (refine zfe rfl (.tmp 0) (.tmp 1) rfl w.heap.size rfl rfl B1.out rfl ?_;intro w2 hb2 hg2;have N2:=hide hb2;have G2:=hide hg2;clear hb2 hg2;refine Hid.out ?_)
 refine hide ?_
 go_wp2
 refine zrn (q:=0) rfl rfl N2.out rfl rfl ?_
 exact ⟨rfl,W1.out.grown G2.out W1.out.size (fun g hg=>by injection hg;omega)⟩
end
section
open Go.RowKit Go.ChangeShapes Go.WideShapes Go.ChangeAt
theorem zh2 {H:Type} {enc:TypeId × Value→H} {P:Program} {w:World} {base:Nat} {sp:Nat→Bool} {held:Bool} {fuel:Nat} {t e:TypeId} {f0 f1:Field} {n:Nat} {cs:List Value} {ls:List (Int × Int)} {p:List MemPlace}
  (ht:P.underlying t=some (.array n e)) (he:P.underlying e=some (.struct #[f0,f1])) (hce:P.cellsOf e=2) (hct:P.cellsOf t=n*2) (o0:f0.offset=0) (o1:f1.offset=1) (c0:P.cellsOf f0.type=1) (c1:P.cellsOf f1.type=1)
  (t0:P.underlying f0.type=some (.int .i64)) (t1:P.underlying f1.type=some (.int .i64))
  (h:DataW.trod enc P w base sp held fuel t cs=some (.agg (ls.map fun x=>.agg [.lit (.int .i64 x.1),.lit (.int .i64 x.2)]),p)):∀ i x,ls[i]?=some x→i<n→(cs.drop (i*2)).take 2=[.int .i64 x.1,.int .i64 x.2]:=by
 cases fuel with
 | zero=>simp [DataW.trod] at h
 | succ fuel =>
  simp only [DataW.trod,ht,hce,hct] at h
  split at h
  ·obtain ⟨xs,hm,hx⟩:=Option.map_eq_some_iff.1 h
   have hxs:xs.map (·.1)=ls.map fun x=>(DataW.agg [.lit (.int .i64 x.1),.lit (.int .i64 x.2)]:DataW H):=by
    have:=congrArg Prod.fst hx
    simpa using this
   intro i x hl hi
   obtain ⟨y,hy,hf⟩:=Lib.mapM_at hm i i (by simp [hi])
   have h2:(xs.map (·.1))[i]?=some y.1:=by simp [hy]
   rw [hxs] at h2
   simp only [List.getElem?_map,hl,Option.map_some,Option.some.injEq] at h2
   obtain ⟨y0,y1,m,hyy,hlen,g0,g1⟩:=trod_struct2 he hf
   rw [hyy] at h2
   simp only [DataW.agg.injEq,List.cons.injEq,and_true] at h2
   rw [hce] at hlen
   match hq:(cs.drop (i*2)).take 2,hlen with
   | [v0,v1],_ =>
    rw [hq] at g0 g1
    simp [o0,o1,c0,c1] at g0 g1
    obtain ⟨q0,e0,x0,_⟩:=DataW.trod_int t0 g0
    obtain ⟨q1,e1,x1,_⟩:=DataW.trod_int t1 g1
    simp at e0 e1
    rw [x0,x1] at h2
    simp at h2
    rw [e0,e1,h2.1,h2.2]
  ·cases h
def zlP:List (Int × Int):=[(1,64),(2,64),(4,128),(5,64),(9,128),(10,128),(16,192),(22,192)]
def knData {H:Type}:DataW H:=.agg (zlP.map fun x=>.agg [.lit (.int .i64 x.1),.lit (.int .i64 x.2)])
noncomputable def zss (l:List Value):Obj→Obj
 | .cells _ t frozen=>.cells l.toArray t frozen
 | o=>o
theorem zhf {H:Type} {enc:TypeId × Value→H} {P:Program} {w:World} {t e:TypeId} {A:Option Addr} {n c:Nat} {fuel:Nat} {x:DataW H × List MemPlace}
  (ht:P.underlying t=some (.slice e)) (he:P.underlying e=some (.int .u8)) (hc:P.cellsOf e=1)
  (hf:DataW.trod enc P w 0 (fun _=>true) true fuel t [.slice A n c]=some x):∃ bs,At w 0 w.heap.size A n bs∧n≤c:=by
 obtain ⟨d,p⟩:=x
 rcases open_ints ht he hc hf with ⟨hcs,_⟩ | ⟨x,l,c',zs,hcs,_,hl,hm,hz,hx,hcell,hwz⟩
 ·simp at hcs
  obtain ⟨rfl,rfl,rfl⟩:=hcs
  exact ⟨[],At.nil _ _ _ _,by omega⟩
 ·simp at hcs
  obtain ⟨rfl,rfl,rfl⟩:=hcs
  simp only [if_true] at hz
  refine ⟨(zs.take n).map fun z=>UInt8.ofNat z.toNat,⟨by simp;omega,fun hn=>?_⟩,hl⟩
  obtain ⟨b,o,spot⟩:=x
  have hc0:=hcell 0 (by omega)
  have hspot:spot=none:=by simpa [Addr.add] using World.cell?_spot hc0
  subst hspot
  refine ⟨b,o,rfl,Nat.zero_le _,block_lt_of_cell hc0,fun k u hu=>?_⟩
  rw [List.getElem?_map,List.getElem?_take] at hu
  split at hu
  ·rename_i hk
   have hk':k<zs.length:=by omega
   have hcell':=hcell k hk'
   rw [zbR] at hcell'
   rw [hcell']
   rw [List.getElem?_eq_getElem hk'] at hu
   simp at hu
   subst hu
   have hw:=ziP (hwz _ (List.getElem_mem hk'))
   simp [bv,List.getD,List.getElem?_eq_getElem hk']
   omega
  ·cases hu
instance:Inhabited RawP:=⟨⟨0,0,none,0,0,[]⟩⟩
end
section
set_option maxRecDepth 100000
open Go.RowKit Go.ChangeShapes Go.WideShapes Go.ChangeAt
theorem zbO {H α:Type} [Inhabited α] {ec:TypeId × Value→H} {P:Program} {enc:α→List Value} {m:World→Nat→Nat→α→Prop} {W:α→Prop} {w:World} {t e:TypeId} {K:Nat} (hK:0<K)
  (ht:P.underlying t=some (.slice e)) (ce:P.cellsOf e=K) (hone:∀ x,W x→(enc x).length=K)
  (step:∀ fuel l y,DataW.trod ec P w 0 (fun _=>true) true fuel e l=some y→∃ q,l=enc q∧m w 0 w.heap.size q∧W q)
  {fuel:Nat} {v:Value} {y:DataW H × List MemPlace} (hf:DataW.trod ec P w 0 (fun _=>true) true fuel t [v]=some y) :
  ∃ A n c xs,v = .slice A n c∧RowE enc m W w 0 w.heap.size A n xs∧n≤c∧c≤maxLen:=by
 rcases Go.Deep.open_slice ht hf with ⟨hcs,_⟩ | ⟨a,n,c,m',k,D,Pl,hcs,hb,hl,hm,hmm,_,hx⟩
 ·injection hcs with hcs
  exact ⟨none,0,0,[],hcs,RowE.nil _ _ _ _,by omega,by omega⟩
 ·injection hcs with hcs
  simp only [if_true] at hmm
  have each:∀ i,i<n→∃ q:α,(m w 0 w.heap.size q∧W q)∧∀ j u,(enc q)[j]?=some u→w.cell? (a.add (i*K+j))=some u:=by
   intro i hi
   obtain ⟨cs',h1,h2⟩:=hx i (by omega)
   rw [ce] at h1
   obtain ⟨_,hlen,hcell⟩:=World.cells?_some h1
   obtain ⟨q,hq,hw,hn⟩:=step _ _ _ h2
   refine ⟨q,⟨hw,hn⟩,fun j u hu=>?_⟩
   have hj:j<K:=by have h3:=(List.getElem?_eq_some_iff.1 hu).1;rw [hone q hn] at h3;exact h3
   have hc:=hcell j hj
   rw [hq] at hc
   rw [Go.Deep.add_add] at hc
   rw [hc]
   exact hu
  obtain ⟨q,hq⟩:=Go.Deep.choose_lt each
  refine ⟨some a,n,c,(List.range n).map q,hcs,⟨?_,?_,?_⟩,hl,hm⟩
  ·have hlen:((List.range n).map q).length=n:=by simp
   have hone':∀ x∈(List.range n).map q,(enc x).length=K:=fun x hx=>by
    obtain ⟨i,hi,rfl⟩:=List.mem_map.1 hx
    exact hone _ (hq i (List.mem_range.1 hi)).1.2
   refine ⟨hlen,fun hn=>?_⟩
   obtain ⟨b,o,spot⟩:=a
   have hl0:0<(enc (q 0)).length:=by rw [hone _ (hq 0 (by omega)).1.2];exact hK
   have h00:=(hq 0 (by omega)).2 0 _ (List.getElem?_eq_getElem hl0)
   have hspot:spot=none:=by simpa [Addr.add] using World.cell?_spot h00
   subst hspot
   have hbl:b<w.heap.size:=by have:=block_lt_of_cell h00;simpa [Addr.add] using this
   refine ⟨b,o,rfl,Nat.zero_le _,hbl,fun j u hu=>?_⟩
   have hj:j<n*K:=by have:=(List.getElem?_eq_some_iff.1 hu).1;rw [zc1 hone',hlen] at this;exact this
   have hi:j/K<n:=Nat.div_lt_of_lt_mul (by rw [Nat.mul_comm];exact hj)
   have hr0:j%K<K:=Nat.mod_lt _ hK
   have hdm:j/K*K+j%K=j:=by rw [Nat.mul_comm];exact Nat.div_add_mod j K
   have hgi:((List.range n).map q)[j/K]?=some (q (j/K)):=by
    rw [List.getElem?_map,List.getElem?_range hi];rfl
   have hr:j%K<(enc (q (j/K))).length:=by rw [hone _ (hq _ hi).1.2];exact hr0
   have hg:=zhs hone' hgi (List.getElem?_eq_getElem hr)
   rw [hdm,hu] at hg
   have hq':=(hq (j/K) hi).2 (j%K) u (by rw [List.getElem?_eq_getElem hr];exact hg.symm)
   rw [zbR,hdm] at hq'
   exact hq'
  ·intro u hu
   obtain ⟨i,hi,rfl⟩:=List.mem_map.1 hu
   exact (hq i (List.mem_range.1 hi)).1.1
  ·intro u hu
   obtain ⟨i,hi,rfl⟩:=List.mem_map.1 hu
   exact (hq i (List.mem_range.1 hi)).1.2
instance:Inhabited SgP:=⟨⟨false,none,0,0,[]⟩⟩
instance:Inhabited TnP:=⟨⟨false,0,0,0,[],none,0,0,[]⟩⟩
section
variable {H:Type} {ec:TypeId × Value→H} {w:World} {fuel:Nat} {l:List Value} {y:DataW H × List MemPlace}
theorem zoD (h:DataW.trod ec Tryz.prog w 0 (fun _=>true) true fuel 109 l=some y):∃ q:SgP,l=sgL q∧mS w 0 w.heap.size q∧wS q:=by
 obtain ⟨y0,y1,k',hy,hlen,g0,g1⟩:=trod_struct2 Tryz.underlying109 h
 have hlen2:l.length=2:=hlen.trans (by kernel_rfl)
 match l,hlen2 with
 | [v0,v1],_ =>
  have cb:Tryz.prog.cellsOf 4=1:=by kernel_rfl
  have cv:Tryz.prog.cellsOf 70=1:=by kernel_rfl
  have e0:DataW.trod ec Tryz.prog w 0 (fun _=>true) true k' 4 [v0]=some y0:=by
   have h:=g0
   rw [show (Tryz.prog.cellsOf 4)=1 from cb] at h
   exact h
  have e1:DataW.trod ec Tryz.prog w 0 (fun _=>true) true k' 70 [v1]=some y1:=by
   have h:=g1
   rw [show (Tryz.prog.cellsOf 70)=1 from cv] at h
   exact h
  obtain ⟨q0,r0,_⟩:=DataW.trod_bool Tryz.underlying4 e0
  obtain ⟨A,n,c,xs,rfl,hr,hn,_⟩:=zbO (α:=Int) (enc:=inL) (m:=mI) (W:=wI) (K:=1) (by decide) Tryz.underlying70 (by kernel_rfl) (fun x _=>zhp x)
   (fun fuel l y h=>by
    obtain ⟨q,r,_,_⟩:=DataW.trod_int Tryz.underlying3 h
    exact ⟨q,r,trivial,trivial⟩) e1
  injection r0 with r0
  exact ⟨⟨q0,A,n,c,xs⟩,by rw [r0];rfl,⟨hr.row,hn⟩,trivial⟩
theorem zoq (h:DataW.trod ec Tryz.prog w 0 (fun _=>true) true fuel 111 l=some y):∃ q:TnP,l=tnL q∧mT w 0 w.heap.size q∧wT q:=by
 obtain ⟨xs,n,_,hx,hl,hlen,hfs⟩:=DataW.trod_struct Tryz.underlying111 h
 match xs,hlen with
 | [y0,y1,y2,y3,y4],_ =>
  have g0:=hfs 0 _ rfl
  have g1:=hfs 1 _ rfl
  have g2:=hfs 2 _ rfl
  have g3:=hfs 3 _ rfl
  have g4:=hfs 4 _ rfl
  have ci:Tryz.prog.cellsOf 3=1:=by kernel_rfl
  have cb:Tryz.prog.cellsOf 4=1:=by kernel_rfl
  have ca:Tryz.prog.cellsOf 37=17:=by kernel_rfl
  have cv:Tryz.prog.cellsOf 22=1:=by kernel_rfl
  have e0:DataW.trod ec Tryz.prog w 0 (fun _=>true) true n 4 ((l.drop 0).take 1)=some y0:=by rw [← cb];exact g0
  have e1:DataW.trod ec Tryz.prog w 0 (fun _=>true) true n 3 ((l.drop 1).take 1)=some y1:=by rw [← ci];exact g1
  have e2:DataW.trod ec Tryz.prog w 0 (fun _=>true) true n 3 ((l.drop 2).take 1)=some y2:=by rw [← ci];exact g2
  have e3:DataW.trod ec Tryz.prog w 0 (fun _=>true) true n 37 ((l.drop 3).take 17)=some y3:=by rw [← ca];exact g3
  have e4:DataW.trod ec Tryz.prog w 0 (fun _=>true) true n 22 ((l.drop 20).take 1)=some y4:=by rw [← cv];exact g4
  have hll:l.length=21:=hl.trans (by kernel_rfl)
  obtain ⟨lf,hb0,_⟩:=DataW.trod_bool Tryz.underlying4 e0
  obtain ⟨k,hk,_,wk⟩:=DataW.trod_int Tryz.underlying3 e1
  obtain ⟨lb,hll2,_,wl⟩:=DataW.trod_int Tryz.underlying3 e2
  obtain ⟨s,bs,hs,hbl,hw⟩:=zbI e3
  obtain ⟨v4,hv4⟩:∃ v4,(l.drop 20).take 1=[v4]:=by
   have hlen:((l.drop 20).take 1).length=1:=by rw [List.length_take,List.length_drop,hll];rfl
   match (l.drop 20).take 1,hlen with
   | [v4],_=>exact ⟨v4,rfl⟩
  rw [hv4] at e4
  have hcs:l = .bool lf :: .int .i64 k :: .int .i64 lb::((.int .i64 s::bvs bs)++[v4]):=by
   have d20:(l.drop 20).take 1=l.drop 20:=List.take_of_length_le (by rw [List.length_drop,hll];decide)
   have s1:l=(l.drop 0).take 1++((l.drop 1).take 1++((l.drop 2).take 1++((l.drop 3).take 17++l.drop 20))):=by
    have a3:l.drop 3=(l.drop 3).take 17++l.drop 20:=by
     conv=>lhs;rw [← List.take_append_drop 17 (l.drop 3),List.drop_drop]
    have a2:l.drop 2=(l.drop 2).take 1++l.drop 3:=by
     conv=>lhs;rw [← List.take_append_drop 1 (l.drop 2),List.drop_drop]
    have a1:l.drop 1=(l.drop 1).take 1++l.drop 2:=by
     conv=>lhs;rw [← List.take_append_drop 1 (l.drop 1),List.drop_drop]
    rw [← a3,← a2,← a1,List.drop_zero,List.take_append_drop]
   rw [s1,hb0,hk,hll2,hs,← d20,hv4]
   rfl
  obtain ⟨A,m,c,rfl⟩:∃ A m c,v4 = .slice A m c:=by
   rcases DataW.trod_slice Tryz.underlying22 e4 with ⟨h,_⟩ | ⟨a,len,cap,_,_,_,_,h,_⟩
   ·injection h with h
    exact ⟨_,_,_,h⟩
   ·injection h with h
    exact ⟨_,_,_,h⟩
  obtain ⟨id,hA,hm⟩:=zhf Tryz.underlying22 Tryz.underlying5 (by kernel_rfl) e4
  exact ⟨⟨lf,k,lb,s,bs,A,m,c,id⟩,hcs,⟨hA,hm⟩,hbl⟩
theorem zmQ:∀ l:List B8,zbL (fun q:B8=>bvs q.1) l=bvs (zbv l)
 | []=>rfl
 | q::r=>by
  show bvs q.1++zbL (fun q:B8=>bvs q.1) r=bvs (q.1++zbv r)
  rw [zmQ r]
  simp [bvs]
theorem atE_of {A:Option Addr} {lo hi n:Nat} {l:List B8} (h:AtG (fun q:B8=>bvs q.1) w lo hi A n l):AtE w lo hi A n l:=by
 have hlen:=h.len
 refine ⟨hlen,by rw [zht,hlen],fun hn=>?_⟩
 obtain ⟨b,o,hA,h1,h2,h3⟩:=h.2 (by omega)
 refine ⟨b,o,hA,h1,h2,fun k u hu=>?_⟩
 refine h3 k (bv u) ?_
 rw [zmQ,bvs,List.getElem?_map,hu]
 rfl
instance:Inhabited B8:=⟨⟨[0,0,0,0,0,0,0,0],rfl⟩⟩
theorem zqz (h:DataW.trod ec Tryz.prog w 0 (fun _=>true) true fuel 46 l=some y):∃ p:AtP,l=attL p∧zaG w 0 w.heap.size p∧p.pc≤maxLen∧p.tc≤maxLen:=by
 obtain ⟨xs,n,_,hx,hl,hlen,hfs⟩:=DataW.trod_struct Tryz.underlying46 h
 match xs,hlen with
 | [y0,y1,y2,y3,y4,y5,y6,y7],_ =>
  have g0:=hfs 0 _ rfl
  have g1:=hfs 1 _ rfl
  have g2:=hfs 2 _ rfl
  have g3:=hfs 3 _ rfl
  have g4:=hfs 4 _ rfl
  have g5:=hfs 5 _ rfl
  have g6:=hfs 6 _ rfl
  have g7:=hfs 7 _ rfl
  have ci:Tryz.prog.cellsOf 3=1:=by kernel_rfl
  have ca:Tryz.prog.cellsOf 37=17:=by kernel_rfl
  have c1:Tryz.prog.cellsOf 41=1:=by kernel_rfl
  have c5:Tryz.prog.cellsOf 42=1:=by kernel_rfl
  have c6:Tryz.prog.cellsOf 43=1:=by kernel_rfl
  have c7:Tryz.prog.cellsOf 44=1:=by kernel_rfl
  have e0:DataW.trod ec Tryz.prog w 0 (fun _=>true) true n 3 ((l.drop 0).take 1)=some y0:=by rw [← ci];exact g0
  have e1:DataW.trod ec Tryz.prog w 0 (fun _=>true) true n 41 ((l.drop 1).take 1)=some y1:=by rw [← c1];exact g1
  have e2:DataW.trod ec Tryz.prog w 0 (fun _=>true) true n 3 ((l.drop 2).take 1)=some y2:=by rw [← ci];exact g2
  have e3:DataW.trod ec Tryz.prog w 0 (fun _=>true) true n 3 ((l.drop 3).take 1)=some y3:=by rw [← ci];exact g3
  have e4:DataW.trod ec Tryz.prog w 0 (fun _=>true) true n 37 ((l.drop 4).take 17)=some y4:=by rw [← ca];exact g4
  have e5:DataW.trod ec Tryz.prog w 0 (fun _=>true) true n 42 ((l.drop 21).take 1)=some y5:=by rw [← c5];exact g5
  have e6:DataW.trod ec Tryz.prog w 0 (fun _=>true) true n 43 ((l.drop 22).take 1)=some y6:=by rw [← c6];exact g6
  have e7:DataW.trod ec Tryz.prog w 0 (fun _=>true) true n 44 ((l.drop 23).take 1)=some y7:=by rw [← c7];exact g7
  have hll:l.length=24:=hl.trans (by kernel_rfl)
  have one:∀ k,k<24→∃ v,(l.drop k).take 1=[v]:=fun k hk=>by
   have hlen:((l.drop k).take 1).length=1:=by rw [List.length_take,List.length_drop,hll];omega
   match (l.drop k).take 1,hlen with
   | [v],_=>exact ⟨v,rfl⟩
  obtain ⟨o,ho,_,_⟩:=DataW.trod_int Tryz.underlying3 e0
  obtain ⟨md,hmd,_,_⟩:=DataW.trod_int Tryz.underlying3 e2
  obtain ⟨pf,hpf,_,_⟩:=DataW.trod_int Tryz.underlying3 e3
  obtain ⟨s,bs,hs,hbl,hw⟩:=zbI e4
  obtain ⟨v1,hv1⟩:=one 1 (by decide)
  obtain ⟨v5,hv5⟩:=one 21 (by decide)
  obtain ⟨v6,hv6⟩:=one 22 (by decide)
  obtain ⟨v7,hv7⟩:=one 23 (by decide)
  rw [hv1] at e1
  rw [hv5] at e5
  rw [hv6] at e6
  rw [hv7] at e7
  have hcs:l = .int .i64 o::v1 :: .int .i64 md :: .int .i64 pf::((.int .i64 s::bvs bs)++[v5,v6,v7]):=by
   have d23:(l.drop 23).take 1=l.drop 23:=List.take_of_length_le (by rw [List.length_drop,hll];decide)
   have a22:l.drop 22=(l.drop 22).take 1++l.drop 23:=by
    conv=>lhs;rw [← List.take_append_drop 1 (l.drop 22),List.drop_drop]
   have a21:l.drop 21=(l.drop 21).take 1++l.drop 22:=by
    conv=>lhs;rw [← List.take_append_drop 1 (l.drop 21),List.drop_drop]
   have a4:l.drop 4=(l.drop 4).take 17++l.drop 21:=by
    conv=>lhs;rw [← List.take_append_drop 17 (l.drop 4),List.drop_drop]
   have a3:l.drop 3=(l.drop 3).take 1++l.drop 4:=by
    conv=>lhs;rw [← List.take_append_drop 1 (l.drop 3),List.drop_drop]
   have a2:l.drop 2=(l.drop 2).take 1++l.drop 3:=by
    conv=>lhs;rw [← List.take_append_drop 1 (l.drop 2),List.drop_drop]
   have a1:l.drop 1=(l.drop 1).take 1++l.drop 2:=by
    conv=>lhs;rw [← List.take_append_drop 1 (l.drop 1),List.drop_drop]
   have a0:l=(l.drop 0).take 1++l.drop 1:=by rw [List.drop_zero,List.take_append_drop]
   rw [a0,a1,a2,a3,a4,a21,a22,← d23,ho,hv1,hmd,hpf,hs,hv5,hv6,hv7]
   rfl
  obtain ⟨pA,pn,pc,path,rfl,hp,hpn,hpc⟩:=zbO (α:=SgP) (enc:=sgL) (m:=mS) (W:=wS) (K:=2) (by decide) Tryz.underlying41 (by kernel_rfl) (fun x _=>zeW x) (fun fuel l y h=>zoD h) e1
  obtain ⟨cA,cn,cc,cl,rfl,hc,hcn,_⟩:=zbO (α:=Int × List UInt8) (enc:=adL) (m:=mD) (W:=wD) (K:=17) (by decide) Tryz.underlying42 (by kernel_rfl) (fun x hx=>zhI hx)
   (fun fuel l y h=>by obtain ⟨s,bs,h1,h2,_⟩:=zbI h;exact ⟨(s,bs),h1,trivial,h2⟩) e5
  obtain ⟨eA,en,ec',ex,rfl,he,hen,_⟩:=zbO (α:=B8) (enc:=fun q:B8=>bvs q.1) (m:=fun _ _ _ _=>True) (W:=fun _=>True) (K:=8) (by decide) Tryz.underlying43 (by kernel_rfl) (fun x _=>by simp [bvs,x.2])
   (fun fuel l y h=>by obtain ⟨bs,h1,h2⟩:=zen Tryz.underlying174 Tryz.underlying5 (by kernel_rfl) (by kernel_rfl) h;exact ⟨⟨bs,h2⟩,h1,trivial,trivial⟩) e6
  obtain ⟨tA,tn,tc,tl,rfl,htt,htn,htc⟩:=zbO (α:=TnP) (enc:=tnL) (m:=mT) (W:=wT) (K:=21) (by decide) Tryz.underlying44 (by kernel_rfl) (fun x hx=>zeU hx) (fun fuel l y h=>zoq h) e7
  exact ⟨⟨o,pA,pn,pc,path,md,pf,s,bs,cA,cn,cc,cl,eA,en,ec',ex,tA,tn,tc,tl⟩,hcs,⟨hbl,hp,hc,atE_of he.row,htt,hpn,hcn,hen,htn⟩,hpc,htc⟩
end
end
section
theorem zqx {l:List UInt8} {k:Nat} (h:l.length=k):be k (big l)=l:=by subst h;exact be_big l
open Go.RowKit
section
variable {ops:Array Oper} {rest:List Oper} {o:Oper} {a:Act} {w:World} {Q:Exit→Act→World→Prop}
end
open Go.RowKit
open Go.RowKit
open Go.RowKit
open Go.RowKit
open Go.RowKit
end
end Go.Proofs.YthgainmcnjldaaaGreatDoor
