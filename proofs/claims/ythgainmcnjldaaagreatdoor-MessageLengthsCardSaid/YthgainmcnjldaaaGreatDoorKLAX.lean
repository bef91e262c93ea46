/-
  Plain mathematics of opens, heads and notes: which are right, what is written of them, what is read of any bytes, and that what is written is read. Nothing here speaks of the program.
  Families, opens and notes as cells and as memory; rows of families: Index, Contains and Equal of package slices; within, nobody, rightFamilies, rightOpen, rightNote, sameOpen, sameNote of package message. No condition beyond sizes that fit memory.
-/
import Derived.Test.YthgainmcnjldaaaGreatDoorKLAP
import Derived.Test.YthgainmcnjldaaaGreatDoorKLAQ
set_option linter.unusedVariables false
set_option linter.unusedSimpArgs false
namespace Go.Proofs.YthgainmcnjldaaaGreatDoor
section
open Go.RowKit
structure Opn where
 sn:Int
 hd:Int
 is:Int
 ib:List UInt8
 fl:List (Int × Int)
 rf:Bool
def kF (f:Int × Int):Bool:=zeG f.1 f.2
def zce (l:List (Int × Int)):Bool:=l.all kF&&decide l.Nodup
def zkx (h:Int):Bool:=decide (h=0∨(3≤h∧h≤65535))
theorem zpV (h:Int):zkx h=((h==0)||decide (3≤h∧h≤65535)):=by
 unfold zkx
 rw [Bool.decide_or]
 rfl
def idOk (s:Int) (b:List UInt8):Bool:=zau s b&&(decide (s=4)&&!decide (s=4∧b=zas))
def zbz (o:Opn):Bool:=decide (1≤o.sn∧o.sn≤4294967295)&&(zkx o.hd&&(idOk o.is o.ib&&zce o.fl))
def famB (f:Int × Int):List UInt8:=[0,UInt8.ofNat (numN f.1).toNat,0,UInt8.ofNat f.2.toNat]
def cntM (k:UInt8) (b:List UInt8):List UInt8:=k::UInt8.ofNat b.length::b
def zg6 (a:Int):Int:=if 65535<a then 23456 else a
def zdK (o:Opn):List UInt8:=o.fl.flatMap (fun f=>cntM 1 (famB f))++((if o.rf then cntM 2 [] else [])++cntM 65 (be 4 o.sn.toNat))
def parB (o:Opn):List UInt8:=cntM 2 (zdK o)
def opB (o:Opn):List UInt8:=(4::(be 2 (zg6 o.sn).toNat++be 2 o.hd.toNat))++(zap o.is o.ib++(UInt8.ofNat (parB o).length::parB o))
structure Cap where
 sn:Int
 fl:List (Int × Int)
 rf:Bool
def fam4 (v:List UInt8):Int × Int:=(szN (zar v 2:Nat),(zar (zao (zah v 2) 1) 1:Nat))
def capV (k:Nat) (v:List UInt8) (o:Cap):Option Cap :=
 if k=1 then if v.length=4 then some (if kF (fam4 v)=true∧fam4 v ∉ o.fl then { o with fl:=o.fl++[fam4 v] } else o) else none
 else if k=2 then some { o with rf:=true }
 else if k=65 then if v.length=4 then some { o with sn:=(big v:Nat) } else none
 else some o
def zc7:Nat→List UInt8→Cap→Option Cap
 | 0,_,o=>some o
 | _+1,[],o=>some o
 | _+1,[_],_=>none
 | n+1,k::l::s,o=>if l.toNat≤s.length then match capV k.toNat (s.take l.toNat) o with
  | none=>none
  | some o'=>zc7 n (s.drop l.toNat) o' else none
def zdU:Nat→List UInt8→Cap→Cap × Option Int
 | 0,_,o=>(o,none)
 | _+1,[],o=>(o,none)
 | n+1,k::r,o=>if k=2 then match r with
  | []=>(o,some 0)
  | l::s=>if l.toNat≤s.length then match zc7 l.toNat (s.take l.toNat) o with
   | none=>(o,some 0)
   | some o'=>zdU n (s.drop l.toNat) o' else (o,some 0)
  else (o,some 4)
def zcn (b:List UInt8):Bool:=decide (10≤b.length∧b.length=10+(b.getD 9 0).toNat)
def opHd (b:List UInt8):Int:=(big ((b.drop 3).take 2):Nat)
def zkj (b:List UInt8):Cap × Option Int:=zdU (b.drop 10).length (b.drop 10) ⟨(big ((b.drop 1).take 2):Nat),[],false⟩
def opOf (b:List UInt8) (c:Cap):Opn:=⟨c.sn,opHd b,4,pad ((b.drop 5).take 4),c.fl,c.rf⟩
def zco (b:List UInt8):Option Int :=
 if zcn b=false then some 0 else if b.getD 0 0≠4 then some 1 else match (zkj b).2 with
  | some s=>some s
  | none=>if (zkj b).1.sn=0 then some 2 else if opHd b=1∨opHd b=2 then some 6 else if pad ((b.drop 5).take 4)=zas then some 3 else none
def opRd (b:List UInt8):Opn:=opOf b (zkj b).1
def zr6 (s:Int):List UInt8:=if s=1 then [0,4] else []
def zde (k:Int):Int:=if k=1 then 29 else if k=2 then 23 else if k=3 then 21 else if k=4 then 19 else if k=5 then 23 else 0
def zez (k:Int):Int:=if k=1∨k=2∨k=3 then 4096 else if k=4 then 19 else if k=5 then 23 else 0
def mkH:List UInt8:=List.replicate 16 255
def lenH (b:List UInt8):Nat:=big ((b.drop 16).take 2)
def zkw (b:List UInt8):Nat:=(b.getD 18 0).toNat
def zdN (m:Bool) (l k:Int):Int :=
 if m=false then 1 else if ¬ (19≤l∧l≤4096) then 2 else if zez k=0 then 3 else if ¬ (zde k≤l∧l≤zez k) then 2 else 0
def zkz (b:List UInt8):Int:=zdN (decide (b.take 16=mkH)) (lenH b) (zkw b)
def ztP (s:Int) (b:List UInt8):List UInt8:=if s=2 then be 2 (lenH b) else if s=3 then [UInt8.ofNat (zkw b)] else []
def zc0 (k:Int) (n:Nat):List UInt8:=mkH++(be 2 (19+n)++[UInt8.ofNat k.toNat])
theorem zkA (k:Int) (n:Nat):(zc0 k n).length=19:=by unfold zc0 mkH;simp [zaW]
theorem zjd {f:Int × Int} (h:kF f=true):f=(4,5)∨f=(4,128)∨f=(16,5)∨f=(16,128):=by
 obtain ⟨s,f⟩:=f
 unfold kF zeG at h
 simp only [Bool.and_eq_true,decide_eq_true_eq] at h
 obtain ⟨rfl | rfl,rfl | rfl⟩:=h <;> simp
theorem zp8 {f:Int × Int} (h:kF f=true):fam4 (famB f)=f:=by
 rcases zjd h with rfl | rfl | rfl | rfl <;> decide
theorem zjk (f:Int × Int):(famB f).length=4:=rfl
theorem zkq {α:Type} [DecidableEq α]:∀ (l s:List α),l.Nodup→(∀ x∈l,x∈s)→l.length≤s.length
 | [],_,_,_=>Nat.zero_le _
 | a::l,s,hd,hs=>by
  rw [List.nodup_cons] at hd
  have h1:=hs a (by simp)
  have h2:=zkq l (s.erase a) hd.2 (fun x hx=>(List.mem_erase_of_ne (fun e=>by subst e;exact hd.1 hx)).2 (hs x (by simp [hx])))
  have h3:=List.length_erase_of_mem h1
  have h4:=List.length_pos_of_mem h1
  simp only [List.length_cons]
  omega
theorem zec {l:List (Int × Int)} (h:zce l=true):l.length≤4:=by
 unfold zce at h
 rw [Bool.and_eq_true,decide_eq_true_eq,List.all_eq_true] at h
 refine zkq l [(4,5),(4,128),(16,5),(16,128)] h.2 (fun x hx=>?_)
 rcases zjd (h.1 x hx) with rfl | rfl | rfl | rfl <;> decide
theorem zf5 {n:Nat} {k:UInt8} {v r:List UInt8} {o o':Cap} (hl:v.length<256) (h:capV k.toNat v o=some o'):zc7 (n+1) (cntM k v++r) o=zc7 n r o':=by
 have e:(UInt8.ofNat v.length).toNat=v.length:=by simp;omega
 show (if (UInt8.ofNat v.length).toNat≤(v++r).length then (match capV k.toNat ((v++r).take (UInt8.ofNat v.length).toNat) o with
  | none=>none
  | some o'=>zc7 n ((v++r).drop (UInt8.ofNat v.length).toNat) o') else none)=_
 rw [e,if_pos (by simp),List.take_left,List.drop_left,h]
theorem zkR:∀ (l:List (Int × Int)) (n:Nat) (r:List UInt8) (a:Int) (fl:List (Int × Int)) (rf:Bool),(fl++l).Nodup→(∀ f∈l,kF f=true) →
  zc7 (l.length+n) (l.flatMap (fun f=>cntM 1 (famB f))++r) ⟨a,fl,rf⟩=zc7 n r ⟨a,fl++l,rf⟩
 | [],n,r,a,fl,rf,_,_=>by simp
 | f::l,n,r,a,fl,rf,hd,hk=>by
  have h1:f ∉ fl:=fun h=>by
   rw [List.nodup_append] at hd
   exact hd.2.2 f h f (by simp) rfl
  have h2:=hk f (by simp)
  have e:(f::l).length+n=(l.length+n)+1:=by simp only [List.length_cons];omega
  have e2:(f::l).flatMap (fun f=>cntM 1 (famB f))++r=cntM 1 (famB f)++(l.flatMap (fun f=>cntM 1 (famB f))++r):=by simp
  rw [e,e2,zf5 (o':=⟨a,fl++[f],rf⟩) (by rw [zjk];omega) (by
   show (if (famB f).length=4 then some (if kF (fam4 (famB f))=true∧fam4 (famB f) ∉ fl then (⟨a,fl++[fam4 (famB f)],rf⟩:Cap) else ⟨a,fl,rf⟩) else none)=_
   rw [if_pos (zjk f),zp8 h2,if_pos ⟨h2,h1⟩])]
  rw [zkR l n r a (fl++[f]) rf (by simpa using hd) (fun x hx=>hk x (by simp [hx]))]
  simp
theorem zql:∀ (n:Nat) (o:Cap),zc7 n [] o=some o
 | 0,_=>rfl
 | _+1,_=>rfl
theorem be4_as {a:Int} (h:1≤a∧a≤4294967295):((big (be 4 a.toNat):Nat):Int)=a:=by
 rw [zmW 4 _ (by show a.toNat<4294967296;omega)]
 omega
theorem zqj {o:Opn} (h:zbz o=true) (a:Int) (n:Nat) (hn:6≤n):zc7 n (zdK o) ⟨a,[],false⟩=some ⟨o.sn,o.fl,o.rf⟩:=by
 unfold zbz at h
 simp only [Bool.and_eq_true,decide_eq_true_eq] at h
 obtain ⟨h1,_,_,h4⟩:=h
 have hl:=zec h4
 unfold zce at h4
 rw [Bool.and_eq_true,decide_eq_true_eq,List.all_eq_true] at h4
 obtain ⟨m,rfl⟩:∃ m,n=o.fl.length+(m+2):=⟨n-o.fl.length-2,by omega⟩
 unfold zdK
 rw [zkR o.fl (m+2) _ a [] false (by simpa using h4.2) h4.1,List.nil_append]
 have h65:∀ (k:Nat) (rf:Bool),zc7 (k+1) (cntM 65 (be 4 o.sn.toNat)) ⟨a,o.fl,rf⟩=some ⟨o.sn,o.fl,rf⟩:=fun k rf=>by
  have:=zf5 (n:=k) (k:=65) (v:=be 4 o.sn.toNat) (r:=[]) (o:=⟨a,o.fl,rf⟩) (o':=⟨o.sn,o.fl,rf⟩) (by rw [zaW];omega) (by
   show (if (be 4 o.sn.toNat).length=4 then some (⟨((big (be 4 o.sn.toNat):Nat):Int),o.fl,rf⟩:Cap) else none)=_
   rw [if_pos (zaW 4 _),be4_as h1])
  rw [List.append_nil] at this
  rw [this,zql]
 cases hr:o.rf with
 | false=>exact h65 (m+1) false
 | true =>
  have:=zf5 (n:=m+1) (k:=2) (v:=[]) (r:=cntM 65 (be 4 o.sn.toNat)) (o:=⟨a,o.fl,false⟩) (o':=⟨a,o.fl,true⟩) (by simp) rfl
  exact this.trans (h65 m true)
theorem zhF {o:Opn} (h:o.fl.length≤4):(zdK o).length≤32∧6≤(zdK o).length:=by
 have h1:∀ l:List (Int × Int),(l.flatMap (fun f=>cntM 1 (famB f))).length=l.length*6:=by
  intro l
  induction l with
  | nil=>rfl
  | cons f l ih=>simp only [List.flatMap_cons,List.length_append,ih,List.length_cons];show 6+_=_;omega
 unfold zdK
 rw [List.length_append,List.length_append,h1]
 have h2:(cntM 65 (be 4 o.sn.toNat)).length=6:=by simp [cntM,zaW]
 have h3:(if o.rf=true then cntM 2 [] else []).length≤2:=by split <;> simp [cntM]
 omega
theorem zpc:∀ (n:Nat) (o:Cap),zdU n [] o=(o,none)
 | 0,_=>rfl
 | _+1,_=>rfl
theorem zpb {o:Opn} (h:zbz o=true) (a:Int) (n:Nat) (hn:1≤n):zdU n (parB o) ⟨a,[],false⟩=(⟨o.sn,o.fl,o.rf⟩,none):=by
 obtain ⟨m,rfl⟩:∃ m,n=m+1:=⟨n-1,by omega⟩
 have h4:zce o.fl=true:=by
  unfold zbz at h
  simp only [Bool.and_eq_true] at h
  exact h.2.2.2
 have hl:=zhF (zec h4)
 have e:(UInt8.ofNat (zdK o).length).toNat=(zdK o).length:=by simp;omega
 show (if (2:UInt8)=2 then (if (UInt8.ofNat (zdK o).length).toNat≤(zdK o).length then (match zc7 (UInt8.ofNat (zdK o).length).toNat ((zdK o).take (UInt8.ofNat (zdK o).length).toNat) ⟨a,[],false⟩ with
  | none=>((⟨a,[],false⟩:Cap),some (0:Int))
  | some o'=>zdU m ((zdK o).drop (UInt8.ofNat (zdK o).length).toNat) o') else _) else _)=_
 rw [if_pos rfl,e,if_pos (Nat.le_refl _),List.take_length,List.drop_length,zqj h a _ hl.2]
 exact zpc m _
theorem ztA {l:List UInt8} (h:l.length=2):∃ a b,l=[a,b]:=by
 match l,h with
 | [a,b],_=>exact ⟨a,b,rfl⟩
theorem list4 {l:List UInt8} (h:l.length=4):∃ a b c d,l=[a,b,c,d]:=by
 match l,h with
 | [a,b,c,d],_=>exact ⟨a,b,c,d,rfl⟩
theorem zir {s:Int} {b:List UInt8} (h:idOk s b=true):zau s b=true∧s=4∧b≠zas:=by
 unfold idOk at h
 simp only [Bool.and_eq_true,decide_eq_true_eq,Bool.not_eq_true',decide_eq_false_iff_not] at h
 exact ⟨h.1,h.2.1,fun e=>h.2.2 ⟨h.2.1,e⟩⟩
theorem zlC {o:Opn} (hb:o.ib.length=16) (h:zbz o=true):zco (opB o)=none∧opRd (opB o)=o∧(opB o).length≤44∧10≤(opB o).length:=by
 have h0:=h
 unfold zbz at h
 simp only [Bool.and_eq_true,decide_eq_true_eq] at h
 obtain ⟨h1,h2,h3,h4⟩:=h
 obtain ⟨g1,g2,g3⟩:=zir h3
 unfold zkx at h2
 rw [decide_eq_true_eq] at h2
 have hp:(parB o).length≤34∧8≤(parB o).length:=by
  have:=zhF (zec h4)
  unfold parB cntM
  simp only [List.length_cons]
  omega
 have hz:=zbW hb g1
 have hz2:=zi8 hb g1
 rw [g2] at hz hz2
 have hpb:=fun a=>zpb h0 a (parB o).length (by omega)
 obtain ⟨x0,x1,hx⟩:=ztA (zaW 2 (zg6 o.sn).toNat)
 obtain ⟨y0,y1,hy⟩:=ztA (zaW 2 o.hd.toNat)
 obtain ⟨z0,z1,z2,z3,hzz⟩:=list4 (l:=zap 4 o.ib) (by rw [hz];rfl)
 have hyb:((big [y0,y1]:Nat):Int)=o.hd:=by
  rw [← hy,zmW 2 _ (by show o.hd.toNat<65536;omega)]
  omega
 have hpd:pad [z0,z1,z2,z3]=o.ib:=by
  have e:=hz2.2
  rw [hzz] at e
  exact e
 generalize hP:parB o=P at *
 have hN:(UInt8.ofNat P.length).toNat=P.length:=by simp;omega
 have e:opB o=4::x0::x1::y0::y1::z0::z1::z2::z3::UInt8.ofNat P.length::P:=by
  unfold opB
  rw [hx,hy,g2,hzz,hP]
  rfl
 have hw:zcn (opB o)=true:=by
  rw [e]
  unfold zcn
  rw [decide_eq_true_eq]
  simp only [List.length_cons]
  refine ⟨by omega,?_⟩
  show _=10+(UInt8.ofNat P.length).toNat
  rw [hN];omega
 have hc:zkj (opB o)=(⟨o.sn,o.fl,o.rf⟩,none):=by
  rw [e]
  exact hpb _
 have hhd:opHd (opB o)=o.hd:=by
  rw [e]
  exact hyb
 have hid:pad (((opB o).drop 5).take 4)=o.ib:=by
  rw [e]
  exact hpd
 refine ⟨?_,?_,by rw [e];simp only [List.length_cons];omega,by rw [e];simp only [List.length_cons];omega⟩
 ·unfold zco
  rw [hw,if_neg (by decide),if_neg (by rw [e];simp),hc,hhd,hid]
  show (if o.sn=0 then some 2 else if o.hd=1∨o.hd=2 then some 6 else if o.ib=zas then some 3 else none)=_
  rw [if_neg (by omega),if_neg (by omega),if_neg g3]
 ·unfold opRd opOf
  rw [hc,hhd,hid,← g2]
end
section
set_option maxRecDepth 20000
set_option maxHeartbeats 1000000
open Go.RowKit
theorem zbS (f:Int × Int):(famL f).length=2:=rfl
theorem zrZ (f:Int × Int):∀ u∈famL f,u.oneCell'=true:=fun u hu=>by
 simp only [famL,List.mem_cons,List.not_mem_nil,or_false] at hu
 rcases hu with rfl | rfl <;> rfl
theorem zsA (w:World) (d:Nat) (f g:Int × Int):(Op.equalIn (d+4) 51 (.agg (famC f)) (.agg (famC g))).run Tryz.prog w = .ok (decide (f=g)) w:=by
 have a3:=Tryz.isAgg3
 have hS:Tryz.prog.underlying 51=some (.struct (Tryz.prog.fieldsOf 51)):=by kernel_rfl
 have hp:Tryz.prog.stoodInHeld 51=false:=by kernel_rfl
 have p0:∀ f:Int × Int,(part 3 (famC f) 0).run Tryz.prog w = .ok (.int .i64 f.1) w:=fun f=>by simp [part,a3,famC]
 have p1:∀ f:Int × Int,(part 3 (famC f) 1).run Tryz.prog w = .ok (.int .i64 f.2) w:=fun f=>by simp [part,a3,famC]
 rw [run_equalIn_agg w (d+3) 51 _ _ hS hp]
 simp only [Program.fieldsOf,Tryz.underlying51]
 have hq:((f.1==g.1)&&((f.2==g.2)&&true))=decide (f=g):=by
  obtain ⟨a,b⟩:=f
  obtain ⟨c,e⟩:=g
  by_cases h1:a=c <;> by_cases h2:b=e <;> simp [h1,h2]
 rw [← hq]
 refine zaR w (d+3) (of_decide_eq_true (by kernel_rfl)) (p0 f) (p0 g) (run_equalIn_int (P:=Tryz.prog) w (d+2) 3 .i64 .i64 f.1 g.1 Tryz.underlying3) ?_
 refine zaR w (d+3) (of_decide_eq_true (by kernel_rfl)) (p1 f) (p1 g) (run_equalIn_int (P:=Tryz.prog) w (d+2) 3 .i64 .i64 f.2 g.2 Tryz.underlying3) ?_
 exact zef w (d+3)
section
variable {ops:Array Oper} {rest:List Oper} {o:Oper} {a:Act} {w:World} {Q:Exit→Act→World→Prop}
theorem zee (x y:Operand) (ho:o.op = .binOp .eql 51 x y 51) {f g:Int × Int} (hx:a.eval x = .agg (famC f)) (hy:a.eval y = .agg (famC g)) (b:Bool) (hb:decide (f=g)=b) :
  (execOp a.eval o).run Tryz.prog w = .ok (.value (.bool b)) w:=by
 subst hb
 have hg':=run_eqGuard_agg (P:=Tryz.prog) w .eql 51 x y (famC f) (famC g) (by kernel_rfl)
 have h:(binOp .eql 51 (.agg (famC f)) (.agg (famC g))).run Tryz.prog w = .ok (.bool (decide (f=g))) w:=by
  rw [run_eql_struct,show (10000:Nat)=9996+4 from rfl,zsA w 9996];rfl
 unfold execOp
 simp only [ho,hx,hy,Sem.run_bind,hg',Result.andThen_ok,h,Sem.run_pure]
theorem zkF (x y:Operand) (ho:o.op = .binOp .neq 51 x y 51) {f g:Int × Int} (hx:a.eval x = .agg (famC f)) (hy:a.eval y = .agg (famC g)) (b:Bool) (hb:(!decide (f=g))=b) :
  (execOp a.eval o).run Tryz.prog w = .ok (.value (.bool b)) w:=by
 subst hb
 have hg':=run_eqGuard_agg (P:=Tryz.prog) w .neq 51 x y (famC f) (famC g) (by kernel_rfl)
 have h:(binOp .neq 51 (.agg (famC f)) (.agg (famC g))).run Tryz.prog w = .ok (.bool (!decide (f=g))) w:=by
  rw [run_neq_struct,show (10000:Nat)=9996+4 from rfl,zsA w 9996];rfl
 unfold execOp
 simp only [ho,hx,hy,Sem.run_bind,hg',Result.andThen_ok,h,Sem.run_pure]
theorem zax (p:Operand) (ho:o.op = .load 51 p) (b i:Nat) (hx:a.eval p = .pointer (some ⟨b,i,none⟩)) {f:Int × Int} (h:w.rangeAt b i (famL f)) :
  (execOp a.eval o).run Tryz.prog w = .ok (.value (.agg (famC f))) w:=by
 unfold execOp
 simp only [ho,hx,Instr.loadAt,Instr.sureAddr,Sem.run_bind,Sem.run_pure,Result.andThen_ok,run_loadVar_mid w b i 51 _ _ h Tryz.underlying51 rfl (by show _=some 2;kernel_rfl)]
 rfl
theorem zcE (hgd:o.guard=none) (p y:Operand) (ho:o.op = .store 51 p y) (g:Nat) (hx:a.eval p = .pointer (some ⟨g,0,none⟩)) (f:Int × Int) (hy:a.eval y = .agg (famC f)) {t:TypeId} {old:Array Value} (h:Blk w g t old) (hold:old.size=2)
  (hk:∀ w',Blk w' g t (famC f)→w.grownBy w' (some g)→wpList Tryz.prog ops Q rest (a.put o.dst undef) w'):wpList Tryz.prog ops Q (o::rest) a w :=
 wpList_store_row hgd 51 p y ho g (famC f) hx hy t old h (by show _=some 2;kernel_rfl) (by rw [hold];rfl) (by simp [famC,Value.oneCell']) (hk _ (h.setRow _) (zaE _ _ _))
end
theorem zlX {o:Oper} {a:Act} {w:World} (x y:Operand) (ho:o.op = .binOp .neq 37 x y 37) {s t:Int} {xs ys:List UInt8} (hx:a.eval x = .agg (zam s xs)) (hy:a.eval y = .agg (zam t ys)) (lx:xs.length=16) (ly:ys.length=16) (b:Bool) (hb:(!decide (s=t∧xs=ys))=b) :
  (execOp a.eval o).run Tryz.prog w = .ok (.value (.bool b)) w:=by
 subst hb
 have hg':=run_eqGuard_agg (P:=Tryz.prog) w .neq 37 x y (zam s xs) (zam t ys) (by kernel_rfl)
 unfold execOp
 simp only [ho,hx,hy,Sem.run_bind,hg',Result.andThen_ok,zmK s t xs ys lx ly,Sem.run_pure]
theorem zhx {o:Oper} {a:Act} {w:World} (x y:Operand) (ho:o.op = .binOp .eql 37 x y 37) {s t:Int} {xs ys:List UInt8} (hx:a.eval x = .agg (zam s xs)) (hy:a.eval y = .agg (zam t ys)) (lx:xs.length=16) (ly:ys.length=16) (b:Bool) (hb:decide (s=t∧xs=ys)=b) :
  (execOp a.eval o).run Tryz.prog w = .ok (.value (.bool b)) w:=by
 subst hb
 have hg':=run_eqGuard_agg (P:=Tryz.prog) w .eql 37 x y (zam s xs) (zam t ys) (by kernel_rfl)
 unfold execOp
 simp only [ho,hx,hy,Sem.run_bind,hg',Result.andThen_ok,zjr s t xs ys lx ly,Sem.run_pure]
theorem znN (w:World) (lo hi:Nat) (A:Option Addr) (n c:Nat) (l:List (Int × Int)) (f:Int × Int) (h:AtG famL w lo hi A n l) (hh:hi≤w.heap.size) (hn:n≤100000000000000) :
  Calls Tryz.prog 127 #[.slice A n c,.agg (famC f)] w fun e w'=>∃ r:Int,e = .returned (.int .i64 r)∧decide (0≤r)=decide (f∈l)∧Below w.heap.size w w':=by
 have H:=hide h
 have HL:=hide h.len
 have HB:=hide (Blk.new w 51 (famC f))
 have W0:=hide ((Below.refl w.heap.size w).alloc (Nat.le_refl _) (.cells (famC f) 51))
 clear h
 go_enter Tryz.func127,Tryz.ntmps127
 go_wp2_with fail
 generalize w.alloc (.cells (famC f) 51)=w0 at *
 go_loopw [8] (fun i wr=>∃ k:Nat,k≤n∧i = .int .i64 k∧(∀ x∈l.take k,f≠x)∧Below w0.heap.size w0 wr) (fun i _=>n-(intOf i).toNat)
 case atStart=>exact ⟨0,Nat.zero_le _,rfl,(fun x hx=>by simp at hx),Below.refl _ _⟩
 case round =>
  obtain ⟨k,hk,rfl,hall,hwr⟩:=hrel
  have HA:=hide hall
  have WR:=hide hwr
  have WB:=hide (zaa W0.out hwr (Nat.le_refl _))
  clear hall hwr
  by_cases hlt:k<n
  ·have XA:=hide (H.out.below (WB.out.mono hh))
   obtain ⟨b,o,x,rfl,_,_,hx,hat⟩:=XA.out.at_ (sz:=2) (fun y _=>zbS y) hlt
   have HX:=hide hx
   have HAT:=hide hat
   obtain ⟨r,hr⟩:∃ r,decide (f=x)=r:=⟨_,rfl⟩
   have HR:=hide hr
   have hkl:((k:Nat):Int)<(n:Int):=by omega
   clear hx hat hr XA
   have ST:Hid (EqR w wr w.heap.size 0 b (o+k*2) (famL f) (famL x)):=hide ⟨zaj (l:=famL f) (HB.out.over WR.out),HAT.out,WB.out⟩
   go_wp2_with fail
   refine wp_region_held_drew (S:=fun z=>EqR w z w.heap.size 0 b (o+k*2) (famL f) (famL x)) (by kernel_rfl) ST.out.drew (fun hHeld=>?_)
   refine rgV 0 (.agg (famC f)) (fun w' hSw=>zax (.tmp 3) rfl w.heap.size 0 rfl hSw.x) ?_
   refine rgT 1 ?_
   refine rgT 2 ?_
   refine rgT 3 ?_
   refine rgV 4 (.agg (famC x)) (fun w' hSw=>zax (.tmp 14) rfl b (o+k*2) rfl hSw.y) ?_
   refine rgV 5 (.bool r) (fun w' hSw=>zee (.tmp 11) (.tmp 15) rfl rfl rfl r HR.out) ?_
   refine wpAnyH_done (by kernel_rfl) ?_ _
   cases r
   ·have HNX:Hid (∀ y∈l.take (k+1),f≠y):=hide (by
     intro y hy
     rw [List.take_add_one,HX.out] at hy
     rcases List.mem_append.1 hy with hy | hy
     ·exact HA.out y hy
     ·rw [show y=x by simpa using hy];exact of_decide_eq_false HR.out)
    go_wp2_with fail
    go_roundw
    case rel=>exact ⟨k+1,by omega,by go_num,HNX.out,zak WR.out⟩
    case measure=>simp [intOf];omega
   ·have HF:Hid (decide (f∈l)=true):=hide (decide_eq_true (by rw [of_decide_eq_true HR.out];exact List.mem_of_getElem? HX.out))
    go_wp2_with fail
    go_ret
    exact ⟨_,rfl,by rw [HF.out];exact decide_eq_true (by omega),zak WB.out⟩
  ·obtain rfl:k=n:=by omega
   have HF:Hid (decide (f∈l)=false):=hide (by
    rw [decide_eq_false_iff_not]
    intro hm
    refine HA.out f ?_ rfl
    rw [List.take_of_length_le (by rw [HL.out];exact Nat.le_refl _)];exact hm)
   go_wp2
   go_ret
   exact ⟨_,rfl,by rw [HF.out];rfl,WB.out⟩
theorem zfC (w:World) (lo hi:Nat) (A:Option Addr) (n c:Nat) (l:List (Int × Int)) (f:Int × Int) (h:AtG famL w lo hi A n l) (hh:hi≤w.heap.size) (hn:n≤100000000000000) :
  Calls Tryz.prog 94 #[.slice A n c,.agg (famC f)] w fun e w'=>e = .returned (.bool (decide (f∈l)))∧Below w.heap.size w w':=by
 have HB:=hide (zaj (l:=famL f) (Blk.new w 51 (famC f)))
 have W0:=hide ((Below.refl w.heap.size w).alloc (Nat.le_refl _) (.cells (famC f) 51))
 have HC:=hide (znN (w.alloc (.cells (famC f) 51)) lo hi A n c l f (h.below (W0.out.mono hh)) (Nat.le_trans hh W0.out.size) hn)
 clear h
 go_enter Tryz.func94,Tryz.ntmps94
 go_wp2_with (with_reducible refine zab rfl (zax (.tmp 3) rfl w.heap.size 0 rfl HB.out) ?_)
 refine HC.out.mono ?_
 rintro e w1 ⟨r,rfl,hr,hb1⟩
 have HR:=hide hr
 have W1:=hide (zaa W0.out hb1 (Nat.le_refl _))
 clear hb1 hr
 by_cases h0:(0:Int)≤r
 all_goals
  go_wp2
  go_ret
  exact ⟨by rw [← HR.out];simp [h0],W1.out⟩
theorem ztN (w:World) (lo hi lo' hi':Nat) (A B:Option Addr) (n m c d:Nat) (xs ys:List (Int × Int)) (h:AtG famL w lo hi A n xs) (h':AtG famL w lo' hi' B m ys) (hh:hi≤w.heap.size) (hh':hi'≤w.heap.size) (hn:n≤100000000000000) :
  Calls Tryz.prog 54 #[.slice A n c,.slice B m d] w fun e w'=>e = .returned (.bool (decide (xs=ys)))∧Below w.heap.size w w':=by
 have H:=hide h
 have H':=hide h'
 have HLX:Hid (xs.length=n):=hide h.len
 have HLY:Hid (ys.length=m):=hide h'.len
 clear h h'
 by_cases hnm:n=m
 ·subst hnm
  have hnn:((n:Int) != (n:Int))=false:=by simp
  go_enter Tryz.func54,Tryz.ntmps54
  go_wp2_with fail
  go_loopw [13] (fun i wr=>∃ k:Nat,k≤n∧i = .int .i64 k∧xs.take k=ys.take k∧Below w.heap.size w wr) (fun i _=>n-(intOf i).toNat)
  case atStart=>exact ⟨0,Nat.zero_le _,rfl,rfl,Below.refl _ _⟩
  case round =>
   obtain ⟨k,hk,rfl,heq,hbel⟩:=hrel
   have HEQ:=hide heq
   have WB:=hide hbel
   clear heq hbel
   by_cases hlt:k<n
   ·have hkl:((k:Nat):Int)<(n:Int):=by omega
    have XA:=hide (H.out.below (WB.out.mono hh))
    have YA:=hide (H'.out.below (WB.out.mono hh'))
    obtain ⟨b,o,x,rfl,_,_,hx,hat⟩:=XA.out.at_ (sz:=2) (fun y _=>zbS y) hlt
    obtain ⟨b',o',y,rfl,_,_,hy,hat'⟩:=YA.out.at_ (sz:=2) (fun y _=>zbS y) hlt
    have HX:=hide hx
    have HY:=hide hy
    have ST:Hid (EqR w wr b (o+k*2) b' (o'+k*2) (famL x) (famL y)):=hide ⟨hat,hat',WB.out⟩
    obtain ⟨r,hr⟩:∃ r,(!decide (x=y))=r:=⟨_,rfl⟩
    have HR:=hide hr
    clear hx hy hat hat' XA YA hr
    go_wp2_with fail
    refine wp_region_held_drew (S:=fun z=>EqR w z b (o+k*2) b' (o'+k*2) (famL x) (famL y)) (by kernel_rfl) ST.out.drew (fun hHeld=>?_)
    refine rgT 0 ?_
    refine rgT 1 ?_
    refine rgT 2 ?_
    refine rgV 3 (.agg (famC x)) (fun w' hSw=>zax (.tmp 18) rfl b (o+k*2) rfl hSw.x) ?_
    refine rgT 4 ?_
    refine rgT 5 ?_
    refine rgT 6 ?_
    refine rgV 7 (.agg (famC y)) (fun w' hSw=>zax (.tmp 22) rfl b' (o'+k*2) rfl hSw.y) ?_
    refine rgV 8 (.bool r) (fun w' hSw=>zkF (.tmp 19) (.tmp 23) rfl rfl rfl r HR.out) ?_
    refine wpAnyH_done (by kernel_rfl) ?_ _
    cases r
    ·have HNX:=hide (zb5 HEQ.out HX.out HY.out (by simpa using HR.out))
     go_wp2_with fail
     go_roundw
     case rel=>exact ⟨k+1,by omega,by go_num,HNX.out,zak WB.out⟩
     case measure=>simp [intOf];omega
    ·have HF:=hide (decide_eq_false (zbs HX.out HY.out (by simpa using HR.out)))
     go_wp2_with fail
     go_ret
     exact ⟨by rw [HF.out];rfl,zak WB.out⟩
   ·obtain rfl:k=n:=by omega
    have hkl:¬ ((k:Nat):Int)<(k:Int):=by omega
    have HF:Hid (decide (xs=ys)=true):=hide (decide_eq_true (by
     have:=HEQ.out
     rw [List.take_of_length_le (by rw [HLX.out];exact Nat.le_refl _),List.take_of_length_le (by rw [HLY.out];exact Nat.le_refl _)] at this
     exact this))
    go_wp2_with fail
    go_ret
    exact ⟨by rw [HF.out];rfl,WB.out⟩
 ·have hnn:((n:Int) != (m:Int))=true:=by
   rw [bne_iff_ne]
   omega
  have HF:=hide (decide_eq_false (zbH HLX.out HLY.out hnm))
  clear hnm
  go_enter Tryz.func54,Tryz.ntmps54
  go_wp2_with fail
  go_ret
  exact ⟨by rw [HF.out];rfl,Below.refl _ _⟩
theorem zbU (w:World) (n lo hi:Int):Calls Tryz.prog 39 #[.int .i64 n,.int .i64 lo,.int .i64 hi] w fun e w'=>e = .returned (.bool (decide (lo≤n∧n≤hi)))∧w=w':=by
 by_cases h1:lo≤n <;> by_cases h2:n≤hi
 all_goals
  go_enter Tryz.func39,Tryz.ntmps39
  go_wp2
  go_ret
  exact ⟨by simp [h1,h2],rfl⟩
theorem zim (w:World):Calls Tryz.prog 60 #[] w fun e w'=>e = .returned (.agg (zam 4 zas))∧Below w.heap.size w w':=by
 have HB:Hid (∀ cs,cs=zam 4 zas→Blk (w.alloc (.cells cs 37)) w.heap.size 37 (zam 4 zas)∧Below w.heap.size w (w.alloc (.cells cs 37))):=hide (by rintro _ rfl;exact ⟨Blk.new w _ _,(Below.refl _ _).alloc (Nat.le_refl _) _⟩)
 go_enter Tryz.func60,Tryz.ntmps60
 go_wp2
 (try simp only [Exit.inBlock,Exit.then])
 exact zhc rfl rfl (HB.out _ (zdv 4).symm).1 rfl rfl ⟨rfl,(HB.out _ (zdv 4).symm).2⟩
end
end Go.Proofs.YthgainmcnjldaaaGreatDoor
