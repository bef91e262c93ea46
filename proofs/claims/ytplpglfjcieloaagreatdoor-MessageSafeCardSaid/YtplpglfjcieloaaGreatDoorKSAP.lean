/-
  Which families are known, and the numbers that stand for their sizes: package family, in whatever memory. No condition.
  Plain mathematics of opens, heads and notes: which are right, what is written of them, what is read of any bytes, and that what is written is read. Nothing here speaks of the program.
  Families, opens and notes as cells and as memory; rows of families: Index, Contains and Equal of package slices; within, nobody, rightFamilies, rightOpen, rightNote, sameOpen, sameNote of package message. No condition beyond sizes that fit memory.
-/
import Derived.Test.YtplpglfjcieloaaGreatDoorKSAL
import Derived.Test.YtplpglfjcieloaaGreatDoorKSAO
set_option linter.unusedVariables false
set_option linter.unusedSimpArgs false
namespace Go.Proofs.YtplpglfjcieloaaGreatDoor
open Tryz
section
open Go.RowKit
theorem zl9 (b:List UInt8):zab b (b.length:Nat)=b:=by
 unfold zab zaY
 rw [if_pos (by simp)]
 simp
theorem zcz (x:UInt8) (b:List UInt8):zap (x::b) 1=x.toNat∧zaf (x::b) 1=b∧za9 (x::b) 1=true:=by
 have hb:zaY (x::b) 1=true:=by unfold zaY;simp;omega
 refine ⟨?_,?_,?_⟩
 ·unfold zap zab;rw [if_pos (by decide),if_pos hb];simp [big]
 ·unfold zaf zae;rw [if_pos (by decide),if_pos hb];simp
 ·unfold za9;rw [hb];rfl
theorem zmS (x y:UInt8) (b:List UInt8):zap (x::y::b) 2=x.toNat*256+y.toNat∧zaf (x::y::b) 2=b∧za9 (x::y::b) 2=true:=by
 have hb:zaY (x::y::b) 2=true:=by unfold zaY;simp;omega
 refine ⟨?_,?_,?_⟩
 ·unfold zap zab;rw [if_pos (by decide),if_pos hb];simp [big]
 ·unfold zaf zae;rw [if_pos (by decide),if_pos hb];simp
 ·unfold za9;rw [hb];rfl
theorem zrH (a b:List UInt8):zab (a++b) (a.length:Nat)=a∧zae (a++b) (a.length:Nat)=b:=⟨(zdZ a b).1,(zdZ a b).2.1⟩
def zdt (s f:Int):Bool:=decide (s=4∨s=16)&&decide (f=5∨f=128)
def numN (s:Int):Int:=if s=4 then 1 else if s=16 then 2 else 0
def szN (n:Int):Int:=if n=1 then 4 else if n=2 then 16 else 0
def famL (f:Int × Int):List Value:=[.int .i64 f.1,.int .i64 f.2]
def famC (f:Int × Int):Array Value:=#[.int .i64 f.1,.int .i64 f.2]
theorem zgk (w:World) (s:Int):Calls prog 63 #[.int .i64 s] w fun e w'=>e = .returned (.int .u8 (numN s))∧w=w':=by
 unfold numN
 by_cases h1:s=4
 ·rw [if_pos h1]
  go_enter func63,ntmps63
  go_wp2
  go_ret
  exact ⟨rfl,rfl⟩
 ·rw [if_neg h1]
  by_cases h2:s=16
  all_goals
   first | rw [if_pos h2] | rw [if_neg h2]
   go_enter func63,ntmps63
   go_wp2
   go_ret
   exact ⟨rfl,rfl⟩
theorem zm3 (w:World) (n:Int):Calls prog 119 #[.int .i64 n] w fun e w'=>e = .returned (.int .i64 (szN n))∧w=w':=by
 unfold szN
 by_cases h1:n=1
 ·rw [if_pos h1]
  go_enter func119,ntmps119
  go_wp2
  go_ret
  exact ⟨rfl,rfl⟩
 ·rw [if_neg h1]
  by_cases h2:n=2
  all_goals
   first | rw [if_pos h2] | rw [if_neg h2]
   go_enter func119,ntmps119
   go_wp2
   go_ret
   exact ⟨rfl,rfl⟩
theorem zfJ (w:World) (f:Int × Int):Calls prog 25 #[.agg (famC f)] w fun e w'=>e = .returned (.bool (zdt f.1 f.2))∧Below w.heap.size w w':=by
 have HB:=hD (Blk.new w 42 (famC f))
 obtain ⟨s,f⟩:=f
 have c0:(w.alloc (.cells (famC (s,f)) 42)).cell? ⟨w.heap.size,0,none⟩=some (.int .i64 s):=HB.o.cell 0
 have c1:(w.alloc (.cells (famC (s,f)) 42)).cell? ⟨w.heap.size,1,none⟩=some (.int .i64 f):=HB.o.cell 1
 have W0:=hD ((Below.refl w.heap.size w).alloc lr (.cells (famC (s,f)) 42))
 clear HB
 show Calls _ _ _ _ fun e w'=>e = .returned (.bool (decide (s=4∨s=16)&&decide (f=5∨f=128)))∧_
 have HN:=hD (zgk (w.alloc (.cells (famC (s,f)) 42)) s)
 have hk:(numN s=0∧decide (s=4∨s=16)=false)∨(numN s=1∧decide (s=4∨s=16)=true)∨(numN s=2∧decide (s=4∨s=16)=true):=by
  unfold numN
  by_cases h1:s=4
  ·simp [h1]
  ·by_cases h2:s=16 <;> simp [h1,h2]
 by_cases h5:f=5∨f=128
 ·rw [decide_eq_true h5]
  rcases hk with ⟨hn,hk⟩ | ⟨hn,hk⟩ | ⟨hn,hk⟩ <;> rcases h5 with rfl | rfl
  all_goals
   rw [hk]
   rw [hn] at HN
   clear hn hk
   go_enter func25,ntmps25
   go_wp2_with fail
   refine HN.o.mono ?_
   rintro e w1 ⟨rfl,rfl⟩
   go_wp2
   go_ret
   exact ⟨rfl,W0.o⟩
 ·rw [decide_eq_false h5]
  have g5:(f==5)=false:=beq_eq_false_iff_ne.2 (fun e=>h5 (.inl e))
  have g6:(f==128)=false:=beq_eq_false_iff_ne.2 (fun e=>h5 (.inr e))
  rcases hk with ⟨hn,hk⟩ | ⟨hn,hk⟩ | ⟨hn,hk⟩
  all_goals
   rw [hk]
   rw [hn] at HN
   clear hn hk h5
   go_enter func25,ntmps25
   go_wp2_with fail
   refine HN.o.mono ?_
   rintro e w1 ⟨rfl,rfl⟩
   go_wp2
   go_ret
   exact ⟨rfl,W0.o⟩
end
section
open Go.RowKit
structure Opn where
 sn:Int
 hd:Int
 is:Int
 ib:List UInt8
 fl:List (Int × Int)
 rf:Bool
def kF (f:Int × Int):Bool:=zdt f.1 f.2
def zcB (l:List (Int × Int)):Bool:=l.all kF&&decide l.Nodup
def zkF (h:Int):Bool:=decide (h=0∨(3≤h∧h≤65535))
theorem zts (h:Int):zkF h=((h==0)||decide (3≤h∧h≤65535)):=by
 unfold zkF
 rw [Bool.decide_or]
 rfl
def idOk (s:Int) (b:List UInt8):Bool:=zay s b&&(decide (s=4)&&!decide (s=4∧b=zas))
def zb1 (o:Opn):Bool:=decide (1≤o.sn∧o.sn≤4294967295)&&(zkF o.hd&&(idOk o.is o.ib&&zcB o.fl))
def famB (f:Int × Int):List UInt8:=[0,UInt8.ofNat (numN f.1).toNat,0,UInt8.ofNat f.2.toNat]
def cntM (k:UInt8) (b:List UInt8):List UInt8:=k::UInt8.ofNat b.length::b
def ziJ (a:Int):Int:=if 65535<a then 23456 else a
def zeM (o:Opn):List UInt8:=o.fl.flatMap (fun f=>cntM 1 (famB f))++((if o.rf then cntM 2 [] else [])++cntM 65 (be 4 o.sn.toNat))
def parB (o:Opn):List UInt8:=cntM 2 (zeM o)
def opB (o:Opn):List UInt8:=(4::(be 2 (ziJ o.sn).toNat++be 2 o.hd.toNat))++(zav o.is o.ib++(UInt8.ofNat (parB o).length::parB o))
structure Cap where
 sn:Int
 fl:List (Int × Int)
 rf:Bool
def fam4 (v:List UInt8):Int × Int:=(szN (zap v 2:Nat),(zap (zae (zaf v 2) 1) 1:Nat))
def capV (k:Nat) (v:List UInt8) (o:Cap):Option Cap :=
 if k=1 then if v.length=4 then some (if kF (fam4 v)=true∧fam4 v ∉ o.fl then { o with fl:=o.fl++[fam4 v] } else o) else none
 else if k=2 then some { o with rf:=true }
 else if k=65 then if v.length=4 then some { o with sn:=(big v:Nat) } else none
 else some o
def zdB:Nat→List UInt8→Cap→Option Cap
 | 0,_,o=>some o
 | _+1,[],o=>some o
 | _+1,[_],_=>none
 | n+1,k::l::s,o=>if l.toNat≤s.length then match capV k.toNat (s.take l.toNat) o with
  | none=>none
  | some o'=>zdB n (s.drop l.toNat) o' else none
def zem:Nat→List UInt8→Cap→Cap × Option Int
 | 0,_,o=>(o,none)
 | _+1,[],o=>(o,none)
 | n+1,k::r,o=>if k=2 then match r with
  | []=>(o,some 0)
  | l::s=>if l.toNat≤s.length then match zdB l.toNat (s.take l.toNat) o with
   | none=>(o,some 0)
   | some o'=>zem n (s.drop l.toNat) o' else (o,some 0)
  else (o,some 4)
def zcI (b:List UInt8):Bool:=decide (10≤b.length∧b.length=10+(b.getD 9 0).toNat)
def opHd (b:List UInt8):Int:=(big ((b.drop 3).take 2):Nat)
def zlq (b:List UInt8):Cap × Option Int:=zem (b.drop 10).length (b.drop 10) ⟨(big ((b.drop 1).take 2):Nat),[],false⟩
def opOf (b:List UInt8) (c:Cap):Opn:=⟨c.sn,opHd b,4,pad ((b.drop 5).take 4),c.fl,c.rf⟩
def zcQ (b:List UInt8):Option Int :=
 if zcI b=false then some 0 else if b.getD 0 0≠4 then some 1 else match (zlq b).2 with
  | some s=>some s
  | none=>if (zlq b).1.sn=0 then some 2 else if opHd b=1∨opHd b=2 then some 6 else if pad ((b.drop 5).take 4)=zas then some 3 else none
def opRd (b:List UInt8):Opn:=opOf b (zlq b).1
def zv3 (s:Int):List UInt8:=if s=1 then [0,4] else []
def zji (k:Int):Int:=if k=1 then 29 else if k=2 then 23 else if k=3 then 21 else if k=4 then 19 else if k=5 then 23 else 0
def zlw (k:Int):Int:=if k=1∨k=2∨k=3 then 4096 else if k=4 then 19 else if k=5 then 23 else 0
def mkH:List UInt8:=List.replicate 16 255
def lenH (b:List UInt8):Nat:=big ((b.drop 16).take 2)
def ztn (b:List UInt8):Nat:=(b.getD 18 0).toNat
def zfS (m:Bool) (l k:Int):Int :=
 if m=false then 1 else if ¬ (19≤l∧l≤4096) then 2 else if zlw k=0 then 3 else if ¬ (zji k≤l∧l≤zlw k) then 2 else 0
def ztu (b:List UInt8):Int:=zfS (decide (b.take 16=mkH)) (lenH b) (ztn b)
def dataH (s:Int) (b:List UInt8):List UInt8:=if s=2 then be 2 (lenH b) else if s=3 then [UInt8.ofNat (ztn b)] else []
def zot (k:Int) (n:Nat):List UInt8:=mkH++(be 2 (19+n)++[UInt8.ofNat k.toNat])
theorem zlD {f:Int × Int} (h:kF f=true):f=(4,5)∨f=(4,128)∨f=(16,5)∨f=(16,128):=by
 obtain ⟨s,f⟩:=f
 unfold kF zdt at h
 simp only [Bool.and_eq_true,decide_eq_true_eq] at h
 obtain ⟨rfl | rfl,rfl | rfl⟩:=h <;> simp
theorem ztI {f:Int × Int} (h:kF f=true):fam4 (famB f)=f:=by
 rcases zlD h with rfl | rfl | rfl | rfl <;> decide
theorem zpE (f:Int × Int):(famB f).length=4:=rfl
theorem zmT {α:Type} [DecidableEq α]:∀ (l s:List α),l.Nodup→(∀ x∈l,x∈s)→l.length≤s.length
 | [],_,_,_=>Nat.zero_le _
 | a::l,s,hd,hs=>by
  rw [List.nodup_cons] at hd
  have h1:=hs a (by simp)
  have h2:=zmT l (s.erase a) hd.2 (fun x hx=>(List.mem_erase_of_ne (fun e=>by subst e;exact hd.1 hx)).2 (hs x (by simp [hx])))
  have h3:=List.length_erase_of_mem h1
  have h4:=List.length_pos_of_mem h1
  simp only [List.length_cons]
  omega
theorem zes {l:List (Int × Int)} (h:zcB l=true):l.length≤4:=by
 unfold zcB at h
 rw [Bool.and_eq_true,decide_eq_true_eq,List.all_eq_true] at h
 refine zmT l [(4,5),(4,128),(16,5),(16,128)] h.2 (fun x hx=>?_)
 rcases zlD (h.1 x hx) with rfl | rfl | rfl | rfl <;> decide
theorem zhr {n:Nat} {k:UInt8} {v r:List UInt8} {o o':Cap} (hl:v.length<256) (h:capV k.toNat v o=some o'):zdB (n+1) (cntM k v++r) o=zdB n r o':=by
 have e:(UInt8.ofNat v.length).toNat=v.length:=by simp;omega
 show (if (UInt8.ofNat v.length).toNat≤(v++r).length then (match capV k.toNat ((v++r).take (UInt8.ofNat v.length).toNat) o with
  | none=>none
  | some o'=>zdB n ((v++r).drop (UInt8.ofNat v.length).toNat) o') else none)=_
 rw [e,if_pos (by simp),List.take_left,List.drop_left,h]
theorem znl:∀ (l:List (Int × Int)) (n:Nat) (r:List UInt8) (a:Int) (fl:List (Int × Int)) (rf:Bool),(fl++l).Nodup→(∀ f∈l,kF f=true) →
  zdB (l.length+n) (l.flatMap (fun f=>cntM 1 (famB f))++r) ⟨a,fl,rf⟩=zdB n r ⟨a,fl++l,rf⟩
 | [],n,r,a,fl,rf,_,_=>by simp
 | f::l,n,r,a,fl,rf,hd,hk=>by
  have h1:f ∉ fl:=fun h=>by
   rw [List.nodup_append] at hd
   exact hd.2.2 f h f (by simp) rfl
  have h2:=hk f (by simp)
  have e:(f::l).length+n=(l.length+n)+1:=by simp only [List.length_cons];omega
  have e2:(f::l).flatMap (fun f=>cntM 1 (famB f))++r=cntM 1 (famB f)++(l.flatMap (fun f=>cntM 1 (famB f))++r):=by simp
  rw [e,e2,zhr (o':=⟨a,fl++[f],rf⟩) (by rw [zpE];omega) (by
   show (if (famB f).length=4 then some (if kF (fam4 (famB f))=true∧fam4 (famB f) ∉ fl then (⟨a,fl++[fam4 (famB f)],rf⟩:Cap) else ⟨a,fl,rf⟩) else none)=_
   rw [if_pos (zpE f),ztI h2,if_pos ⟨h2,h1⟩])]
  rw [znl l n r a (fl++[f]) rf (by simpa using hd) (fun x hx=>hk x (by simp [hx]))]
  simp
theorem ztW:∀ (n:Nat) (o:Cap),zdB n [] o=some o
 | 0,_=>rfl
 | _+1,_=>rfl
theorem be4_as {a:Int} (h:1≤a∧a≤4294967295):((big (be 4 a.toNat):Nat):Int)=a:=by
 rw [zpJ 4 _ (by show a.toNat<4294967296;omega)]
 omega
theorem ztU {o:Opn} (h:zb1 o=true) (a:Int) (n:Nat) (hn:6≤n):zdB n (zeM o) ⟨a,[],false⟩=some ⟨o.sn,o.fl,o.rf⟩:=by
 unfold zb1 at h
 simp only [Bool.and_eq_true,decide_eq_true_eq] at h
 obtain ⟨h1,_,_,h4⟩:=h
 have hl:=zes h4
 unfold zcB at h4
 rw [Bool.and_eq_true,decide_eq_true_eq,List.all_eq_true] at h4
 obtain ⟨m,rfl⟩:∃ m,n=o.fl.length+(m+2):=⟨n-o.fl.length-2,by omega⟩
 unfold zeM
 rw [znl o.fl (m+2) _ a [] false (by simpa using h4.2) h4.1,List.nil_append]
 have h65:∀ (k:Nat) (rf:Bool),zdB (k+1) (cntM 65 (be 4 o.sn.toNat)) ⟨a,o.fl,rf⟩=some ⟨o.sn,o.fl,rf⟩:=fun k rf=>by
  have:=zhr (n:=k) (k:=65) (v:=be 4 o.sn.toNat) (r:=[]) (o:=⟨a,o.fl,rf⟩) (o':=⟨o.sn,o.fl,rf⟩) (by rw [zbJ];omega) (by
   show (if (be 4 o.sn.toNat).length=4 then some (⟨((big (be 4 o.sn.toNat):Nat):Int),o.fl,rf⟩:Cap) else none)=_
   rw [if_pos (zbJ 4 _),be4_as h1])
  rw [List.append_nil] at this
  rw [this,ztW]
 cases hr:o.rf with
 | false=>exact h65 (m+1) false
 | true =>
  have:=zhr (n:=m+1) (k:=2) (v:=[]) (r:=cntM 65 (be 4 o.sn.toNat)) (o:=⟨a,o.fl,false⟩) (o':=⟨a,o.fl,true⟩) (by simp) rfl
  exact this.trans (h65 m true)
theorem zjx {o:Opn} (h:o.fl.length≤4):(zeM o).length≤32∧6≤(zeM o).length:=by
 have h1:∀ l:List (Int × Int),(l.flatMap (fun f=>cntM 1 (famB f))).length=l.length*6:=by
  intro l
  induction l with
  | nil=>rfl
  | cons f l ih=>simp only [List.flatMap_cons,List.length_append,ih,List.length_cons];show 6+_=_;omega
 unfold zeM
 rw [List.length_append,List.length_append,h1]
 have h2:(cntM 65 (be 4 o.sn.toNat)).length=6:=by simp [cntM,zbJ]
 have h3:(if o.rf=true then cntM 2 [] else []).length≤2:=by split <;> simp [cntM]
 omega
theorem zsP:∀ (n:Nat) (o:Cap),zem n [] o=(o,none)
 | 0,_=>rfl
 | _+1,_=>rfl
theorem zsO {o:Opn} (h:zb1 o=true) (a:Int) (n:Nat) (hn:1≤n):zem n (parB o) ⟨a,[],false⟩=(⟨o.sn,o.fl,o.rf⟩,none):=by
 obtain ⟨m,rfl⟩:∃ m,n=m+1:=⟨n-1,by omega⟩
 have h4:zcB o.fl=true:=by
  unfold zb1 at h
  simp only [Bool.and_eq_true] at h
  exact h.2.2.2
 have hl:=zjx (zes h4)
 have e:(UInt8.ofNat (zeM o).length).toNat=(zeM o).length:=by simp;omega
 show (if (2:UInt8)=2 then (if (UInt8.ofNat (zeM o).length).toNat≤(zeM o).length then (match zdB (UInt8.ofNat (zeM o).length).toNat ((zeM o).take (UInt8.ofNat (zeM o).length).toNat) ⟨a,[],false⟩ with
  | none=>((⟨a,[],false⟩:Cap),some (0:Int))
  | some o'=>zem m ((zeM o).drop (UInt8.ofNat (zeM o).length).toNat) o') else _) else _)=_
 rw [if_pos rfl,e,if_pos lr,List.take_length,List.drop_length,ztU h a _ hl.2]
 exact zsP m _
theorem list2 {l:List UInt8} (h:l.length=2):∃ a b,l=[a,b]:=by
 match l,h with
 | [a,b],_=>exact ⟨a,b,rfl⟩
theorem list4 {l:List UInt8} (h:l.length=4):∃ a b c d,l=[a,b,c,d]:=by
 match l,h with
 | [a,b,c,d],_=>exact ⟨a,b,c,d,rfl⟩
theorem zkE {s:Int} {b:List UInt8} (h:idOk s b=true):zay s b=true∧s=4∧b≠zas:=by
 unfold idOk at h
 simp only [Bool.and_eq_true,decide_eq_true_eq,Bool.not_eq_true',decide_eq_false_iff_not] at h
 exact ⟨h.1,h.2.1,fun e=>h.2.2 ⟨h.2.1,e⟩⟩
theorem zsU {o:Opn} (hb:o.ib.length=16) (h:zb1 o=true):zcQ (opB o)=none∧opRd (opB o)=o∧(opB o).length≤44∧10≤(opB o).length:=by
 have h0:=h
 unfold zb1 at h
 simp only [Bool.and_eq_true,decide_eq_true_eq] at h
 obtain ⟨h1,h2,h3,h4⟩:=h
 obtain ⟨g1,g2,g3⟩:=zkE h3
 unfold zkF at h2
 rw [decide_eq_true_eq] at h2
 have hp:(parB o).length≤34∧8≤(parB o).length:=by
  have:=zjx (zes h4)
  unfold parB cntM
  simp only [List.length_cons]
  omega
 have hz:=zcK hb g1
 have hz2:=zls hb g1
 rw [g2] at hz hz2
 have hpb:=fun a=>zsO h0 a (parB o).length (by omega)
 obtain ⟨x0,x1,hx⟩:=list2 (zbJ 2 (ziJ o.sn).toNat)
 obtain ⟨y0,y1,hy⟩:=list2 (zbJ 2 o.hd.toNat)
 obtain ⟨z0,z1,z2,z3,hzz⟩:=list4 (l:=zav 4 o.ib) (by rw [hz];rfl)
 have hyb:((big [y0,y1]:Nat):Int)=o.hd:=by
  rw [← hy,zpJ 2 _ (by show o.hd.toNat<65536;omega)]
  omega
 have hpd:pad [z0,z1,z2,z3]=o.ib:=by
  have e:=hz2.2
  rw [hzz] at e
  exact e
 generalize hP:parB o=P at *
 have hN:(UInt8.ofNat P.length).toNat=P.length:=by simp;omega
 have e:opB o=4::x0::x1::y0::y1::z0::z1::z2::z3::UInt8.ofNat P.length::P:=by
  unfold opB
  rw [hx,hy,g2,hzz,hP]
  rfl
 have hw:zcI (opB o)=true:=by
  rw [e]
  unfold zcI
  rw [decide_eq_true_eq]
  simp only [List.length_cons]
  refine ⟨by omega,?_⟩
  show _=10+(UInt8.ofNat P.length).toNat
  rw [hN];omega
 have hc:zlq (opB o)=(⟨o.sn,o.fl,o.rf⟩,none):=by
  rw [e]
  exact hpb _
 have hhd:opHd (opB o)=o.hd:=by
  rw [e]
  exact hyb
 have hid:pad (((opB o).drop 5).take 4)=o.ib:=by
  rw [e]
  exact hpd
 refine ⟨?_,?_,by rw [e];simp only [List.length_cons];omega,by rw [e];simp only [List.length_cons];omega⟩
 ·unfold zcQ
  rw [hw,if_neg (by decide),if_neg (by rw [e];simp),hc,hhd,hid]
  show (if o.sn=0 then some 2 else if o.hd=1∨o.hd=2 then some 6 else if o.ib=zas then some 3 else none)=_
  rw [if_neg (by omega),if_neg (by omega),if_neg g3]
 ·unfold opRd opOf
  rw [hc,hhd,hid,← g2]
def zoO (c:Cap):Prop:=zcB c.fl=true∧0≤c.sn∧c.sn≤4294967295
theorem zyz {k:Nat} {v:List UInt8} {o o':Cap} (h:zoO o) (e:capV k v o=some o'):zoO o':=by
 obtain ⟨h1,h2⟩:=h
 unfold capV at e
 split at e
 ·split at e
  ·injection e with e
   subst e
   split
   ·rename_i hk
    refine ⟨?_,h2⟩
    unfold zcB at h1 ⊢
    rw [Bool.and_eq_true,decide_eq_true_eq,List.all_eq_true] at h1 ⊢
    refine ⟨fun x hx=>?_,?_⟩
    ·rcases List.mem_append.1 hx with hx | hx
     ·exact h1.1 x hx
     ·rw [List.mem_singleton.1 hx];exact hk.1
    ·rw [List.nodup_append]
     exact ⟨h1.2,by simp,fun a ha b hb e=>by rw [List.mem_singleton.1 hb] at e;subst e;exact hk.2 ha⟩
   ·exact ⟨h1,h2⟩
  ·cases e
 ·split at e
  ·injection e with e
   subst e
   exact ⟨h1,h2⟩
  ·split at e
   ·split at e
    ·rename_i hv
     injection e with e
     subst e
     have:=zeu v
     rw [hv] at this
     exact ⟨h1,by show (0:Int)≤(big v:Nat);omega,by show ((big v:Nat):Int)≤_;have h3:big v<4294967296:=this;omega⟩
    ·cases e
   ·injection e with e
    subst e
    exact ⟨h1,h2⟩
theorem zpH:∀ (n:Nat) (b:List UInt8) (o o':Cap),zoO o→zdB n b o=some o'→zoO o'
 | 0,b,o,o',h,e=>by injection e with e;exact e▸h
 | n+1,[],o,o',h,e=>by injection e with e;exact e▸h
 | n+1,[_],o,o',h,e=>by cases e
 | n+1,k::l::s,o,o',h,e=>by
  unfold zdB at e
  split at e
  ·split at e
   ·cases e
   ·rename_i q hq
    exact zpH n _ q o' (zyz h hq) e
  ·cases e
theorem zpq:∀ (n:Nat) (b:List UInt8) (o:Cap),zoO o→zoO (zem n b o).1
 | 0,b,o,h=>h
 | n+1,[],o,h=>h
 | n+1,k::r,o,h=>by
  unfold zem
  split
  ·split
   ·exact h
   ·split
    ·split
     ·exact h
     ·rename_i q hq
      exact zpq n _ q (zpH _ _ _ _ h hq)
    ·exact h
  ·exact h
theorem zvs {b:List UInt8} (h:zcQ b=none):zb1 (opRd b)=true∧(opRd b).ib.length=16:=by
 unfold zcQ at h
 split at h
 ·cases h
 ·rename_i hw
  split at h
  ·cases h
  ·have hc:zoO (zlq b).1:=zpq _ _ _ ⟨rfl,by show (0:Int)≤(big _:Nat);omega,by
    show ((big ((b.drop 1).take 2):Nat):Int)≤4294967295
    have h1:=zjz (bs:=b.drop 1) (k:=2) (by decide)
    omega⟩
   split at h
   ·cases h
   ·split at h
    ·cases h
    ·split at h
     ·cases h
     ·split at h
      ·cases h
      ·rename_i h1 h2 h3
       have hw':10≤b.length:=by
        have:zcI b=true:=by simpa using hw
        unfold zcI at this
        rw [decide_eq_true_eq] at this
        exact this.1
       obtain ⟨z0,z1,z2,z3,hz⟩:=list4 (l:=(b.drop 5).take 4) (by rw [List.length_take,List.length_drop];omega)
       have hh:opHd b≤65535:=by
        unfold opHd
        have h5:=zeu ((b.drop 3).take 2)
        have h6:((b.drop 3).take 2).length=2:=by rw [List.length_take,List.length_drop];omega
        rw [h6] at h5
        have h7:big ((b.drop 3).take 2)<65536:=h5
        omega
       have hh0:0≤opHd b:=by unfold opHd;omega
       unfold opRd opOf zb1 zkF idOk
       rw [hz] at h3 ⊢
       refine ⟨?_,rfl⟩
       simp only [Bool.and_eq_true,decide_eq_true_eq,Bool.not_eq_true',decide_eq_false_iff_not]
       exact ⟨⟨by have:=hc.2.1;omega,hc.2.2⟩,by omega,⟨by simp [zay,zcV,pad],trivial,fun e=>h3 e.2⟩,hc.1⟩
end
section
set_option maxRecDepth 20000
set_option maxHeartbeats 1000000
open Go.RowKit
theorem zcY (f:Int × Int):(famL f).length=2:=rfl
theorem zvW (f:Int × Int):∀ u∈famL f,u.oneCell'=true:=fun u hu=>by
 simp only [famL,List.mem_cons,List.not_mem_nil,or_false] at hu
 rcases hu with rfl | rfl <;> rfl
theorem zwM (w:World) (d:Nat) (f g:Int × Int):(Op.equalIn (d+4) 42 (.agg (famC f)) (.agg (famC g))).run prog w = .ok (decide (f=g)) w:=by
 have a3:=Tryz.isAgg3
 have hS:prog.underlying 42=some (.struct (prog.fieldsOf 42)):=by kernel_rfl
 have hp:prog.stoodInHeld 42=false:=by kernel_rfl
 have p0:∀ f:Int × Int,(part 3 (famC f) 0).run prog w = .ok (.int .i64 f.1) w:=fun f=>by simp [part,a3,famC]
 have p1:∀ f:Int × Int,(part 3 (famC f) 1).run prog w = .ok (.int .i64 f.2) w:=fun f=>by simp [part,a3,famC]
 rw [run_equalIn_agg w (d+3) 42 _ _ hS hp]
 simp only [Program.fieldsOf,underlying42]
 have hq:((f.1==g.1)&&((f.2==g.2)&&true))=decide (f=g):=by
  obtain ⟨a,b⟩:=f
  obtain ⟨c,e⟩:=g
  by_cases h1:a=c <;> by_cases h2:b=e <;> simp [h1,h2]
 rw [← hq]
 refine za5 w (d+3) (of_decide_eq_true (by kernel_rfl)) (p0 f) (p0 g) (run_equalIn_int (P:=prog) w (d+2) 3 .i64 .i64 f.1 g.1 underlying3) ?_
 refine za5 w (d+3) (of_decide_eq_true (by kernel_rfl)) (p1 f) (p1 g) (run_equalIn_int (P:=prog) w (d+2) 3 .i64 .i64 f.2 g.2 underlying3) ?_
 exact zfl w (d+3)
section
variable {ops:Array Oper} {rest:List Oper} {o:Oper} {a:Act} {w:World} {Q:Exit→Act→World→Prop}
theorem zfk (x y:Operand) (ho:o.op = .binOp .eql 42 x y 42) {f g:Int × Int} (hx:a.eval x = .agg (famC f)) (hy:a.eval y = .agg (famC g)) (b:Bool) (hb:decide (f=g)=b) :
  (execOp a.eval o).run prog w = .ok (.value (.bool b)) w:=by
 subst hb
 have hg':=run_eqGuard_agg (P:=prog) w .eql 42 x y (famC f) (famC g) (by kernel_rfl)
 have h:(binOp .eql 42 (.agg (famC f)) (.agg (famC g))).run prog w = .ok (.bool (decide (f=g))) w:=by
  rw [run_eql_struct,show (10000:Nat)=9996+4 from rfl,zwM w 9996];rfl
 unfold execOp
 simp only [ho,hx,hy,Sem.run_bind,hg',Result.andThen_ok,h,Sem.run_pure]
theorem znc (x y:Operand) (ho:o.op = .binOp .neq 42 x y 42) {f g:Int × Int} (hx:a.eval x = .agg (famC f)) (hy:a.eval y = .agg (famC g)) (b:Bool) (hb:(!decide (f=g))=b) :
  (execOp a.eval o).run prog w = .ok (.value (.bool b)) w:=by
 subst hb
 have hg':=run_eqGuard_agg (P:=prog) w .neq 42 x y (famC f) (famC g) (by kernel_rfl)
 have h:(binOp .neq 42 (.agg (famC f)) (.agg (famC g))).run prog w = .ok (.bool (!decide (f=g))) w:=by
  rw [run_neq_struct,show (10000:Nat)=9996+4 from rfl,zwM w 9996];rfl
 unfold execOp
 simp only [ho,hx,hy,Sem.run_bind,hg',Result.andThen_ok,h,Sem.run_pure]
theorem zaw (p:Operand) (ho:o.op = .load 42 p) (b i:Nat) (hx:a.eval p = .pointer (some ⟨b,i,none⟩)) {f:Int × Int} (h:w.rangeAt b i (famL f)) :
  (execOp a.eval o).run prog w = .ok (.value (.agg (famC f))) w:=by
 unfold execOp
 simp only [ho,hx,Instr.loadAt,Instr.sureAddr,Sem.run_bind,Sem.run_pure,Result.andThen_ok,run_loadVar_mid w b i 42 _ _ h underlying42 rfl (by show _=some 2;kernel_rfl)]
 rfl
theorem zbz (hgd:o.guard=none) (p y:Operand) (ho:o.op = .store 42 p y) (g:Nat) (hx:a.eval p = .pointer (some ⟨g,0,none⟩)) (f:Int × Int) (hy:a.eval y = .agg (famC f)) {t:TypeId} {old:Array Value} (h:Blk w g t old) (hold:old.size=2)
  (hk:∀ w',Blk w' g t (famC f)→w.grownBy w' (some g)→wpList prog ops Q rest (a.put o.dst undef) w'):wpList prog ops Q (o::rest) a w :=
 wpList_store_row hgd 42 p y ho g (famC f) hx hy t old h (by show _=some 2;kernel_rfl) (by rw [hold];rfl) (by simp [famC,Value.oneCell']) (hk _ (h.setRow _) (zaB _ _ _))
end
theorem zoy {o:Oper} {a:Act} {w:World} (x y:Operand) (ho:o.op = .binOp .neq 26 x y 26) {s t:Int} {xs ys:List UInt8} (hx:a.eval x = .agg (zaq s xs)) (hy:a.eval y = .agg (zaq t ys)) (lx:xs.length=16) (ly:ys.length=16) (b:Bool) (hb:(!decide (s=t∧xs=ys))=b) :
  (execOp a.eval o).run prog w = .ok (.value (.bool b)) w:=by
 subst hb
 have hg':=run_eqGuard_agg (P:=prog) w .neq 26 x y (zaq s xs) (zaq t ys) (by kernel_rfl)
 unfold execOp
 simp only [ho,hx,hy,Sem.run_bind,hg',Result.andThen_ok,zpx s t xs ys lx ly,Sem.run_pure]
theorem zjq {o:Oper} {a:Act} {w:World} (x y:Operand) (ho:o.op = .binOp .eql 26 x y 26) {s t:Int} {xs ys:List UInt8} (hx:a.eval x = .agg (zaq s xs)) (hy:a.eval y = .agg (zaq t ys)) (lx:xs.length=16) (ly:ys.length=16) (b:Bool) (hb:decide (s=t∧xs=ys)=b) :
  (execOp a.eval o).run prog w = .ok (.value (.bool b)) w:=by
 subst hb
 have hg':=run_eqGuard_agg (P:=prog) w .eql 26 x y (zaq s xs) (zaq t ys) (by kernel_rfl)
 unfold execOp
 simp only [ho,hx,hy,Sem.run_bind,hg',Result.andThen_ok,zlL s t xs ys lx ly,Sem.run_pure]
theorem zq4 (w:World) (lo hi:Nat) (A:Option Addr) (n c:Nat) (l:List (Int × Int)) (f:Int × Int) (h:AtG famL w lo hi A n l) (hh:hi≤w.heap.size) (hn:n≤100000000000000) :
  Calls prog 134 #[.slice A n c,.agg (famC f)] w fun e w'=>∃ r:Int,e = .returned (.int .i64 r)∧decide (0≤r)=decide (f∈l)∧Below w.heap.size w w':=by
 have H:=hD h
 have HL:=hD h.len
 have HB:=hD (Blk.new w 42 (famC f))
 have W0:=hD ((Below.refl w.heap.size w).alloc lr (.cells (famC f) 42))
 clear h
 go_enter func134,ntmps134
 go_wp2_with fail
 generalize w.alloc (.cells (famC f) 42)=w0 at *
 go_loopw [8] (fun i wr=>∃ k:Nat,k≤n∧i = .int .i64 k∧(∀ x∈l.take k,f≠x)∧Below w0.heap.size w0 wr) (fun i _=>n-(intOf i).toNat)
 case atStart=>exact ⟨0,Nat.zero_le _,rfl,(fun x hx=>by simp at hx),Below.refl _ _⟩
 case round =>
  obtain ⟨k,hk,rfl,hall,hwr⟩:=hrel
  have HA:=hD hall
  have WR:=hD hwr
  have WB:=hD (zaa W0.o hwr lr)
  clear hall hwr
  by_cases hlt:k<n
  ·have XA:=hD (H.o.below (WB.o.mono hh))
   obtain ⟨b,o,x,rfl,_,_,hx,hat⟩:=XA.o.at_ (sz:=2) (fun y _=>zcY y) hlt
   have HX:=hD hx
   have HAT:=hD hat
   obtain ⟨r,hr⟩:∃ r,decide (f=x)=r:=⟨_,rfl⟩
   have HR:=hD hr
   have hkl:((k:Nat):Int)<(n:Int):=by omega
   clear hx hat hr XA
   have ST:Hid (EqR w wr w.heap.size 0 b (o+k*2) (famL f) (famL x)):=hD ⟨zah (l:=famL f) (HB.o.over WR.o),HAT.o,WB.o⟩
   go_wp2_with fail
   refine wp_region_held_drew (S:=fun z=>EqR w z w.heap.size 0 b (o+k*2) (famL f) (famL x)) (by kernel_rfl) ST.o.drew (fun hHeld=>?_)
   refine rgV 0 (.agg (famC f)) (fun w' hSw=>zaw (.tmp 3) rfl w.heap.size 0 rfl hSw.x) ?_
   refine rgT 1 ?_
   refine rgT 2 ?_
   refine rgT 3 ?_
   refine rgV 4 (.agg (famC x)) (fun w' hSw=>zaw (.tmp 14) rfl b (o+k*2) rfl hSw.y) ?_
   refine rgV 5 (.bool r) (fun w' hSw=>zfk (.tmp 11) (.tmp 15) rfl rfl rfl r HR.o) ?_
   refine wpAnyH_done (by kernel_rfl) ?_ _
   cases r
   ·have HNX:Hid (∀ y∈l.take (k+1),f≠y):=hD (by
     intro y hy
     rw [List.take_add_one,HX.o] at hy
     rcases List.mem_append.1 hy with hy | hy
     ·exact HA.o y hy
     ·rw [show y=x by simpa using hy];exact of_decide_eq_false HR.o)
    go_wp2_with fail
    go_roundw
    case rel=>exact ⟨k+1,by omega,by go_num,HNX.o,zaj WR.o⟩
    case measure=>simp [intOf];omega
   ·have HF:Hid (decide (f∈l)=true):=hD (decide_eq_true (by rw [of_decide_eq_true HR.o];exact List.mem_of_getElem? HX.o))
    go_wp2_with fail
    go_ret
    exact ⟨_,rfl,by rw [HF.o];exact decide_eq_true (by omega),zaj WB.o⟩
  ·obtain rfl:k=n:=by omega
   have HF:Hid (decide (f∈l)=false):=hD (by
    rw [decide_eq_false_iff_not]
    intro hm
    refine HA.o f ?_ rfl
    rw [List.take_of_length_le (by rw [HL.o];exact lr)];exact hm)
   go_wp2
   go_ret
   exact ⟨_,rfl,by rw [HF.o];rfl,WB.o⟩
theorem zgR (w:World) (lo hi:Nat) (A:Option Addr) (n c:Nat) (l:List (Int × Int)) (f:Int × Int) (h:AtG famL w lo hi A n l) (hh:hi≤w.heap.size) (hn:n≤100000000000000) :
  Calls prog 103 #[.slice A n c,.agg (famC f)] w fun e w'=>e = .returned (.bool (decide (f∈l)))∧Below w.heap.size w w':=by
 have HB:=hD (zah (l:=famL f) (Blk.new w 42 (famC f)))
 have W0:=hD ((Below.refl w.heap.size w).alloc lr (.cells (famC f) 42))
 have HC:=hD (zq4 (w.alloc (.cells (famC f) 42)) lo hi A n c l f (h.below (W0.o.mono hh)) (Nat.le_trans hh W0.o.size) hn)
 clear h
 go_enter func103,ntmps103
 go_wp2_with (with_reducible refine zac rfl (zaw (.tmp 3) rfl w.heap.size 0 rfl HB.o) ?_)
 refine HC.o.mono ?_
 rintro e w1 ⟨r,rfl,hr,hb1⟩
 have HR:=hD hr
 have W1:=hD (zaa W0.o hb1 lr)
 clear hb1 hr
 by_cases h0:(0:Int)≤r
 all_goals
  go_wp2
  go_ret
  exact ⟨by rw [← HR.o];simp [h0],W1.o⟩
theorem zyq (w:World) (lo hi lo' hi':Nat) (A B:Option Addr) (n m c d:Nat) (xs ys:List (Int × Int)) (h:AtG famL w lo hi A n xs) (h':AtG famL w lo' hi' B m ys) (hh:hi≤w.heap.size) (hh':hi'≤w.heap.size) (hn:n≤100000000000000) :
  Calls prog 39 #[.slice A n c,.slice B m d] w fun e w'=>e = .returned (.bool (decide (xs=ys)))∧Below w.heap.size w w':=by
 have H:=hD h
 have H':=hD h'
 have HLX:Hid (xs.length=n):=hD h.len
 have HLY:Hid (ys.length=m):=hD h'.len
 clear h h'
 by_cases hnm:n=m
 ·subst hnm
  have hnn:((n:Int) != (n:Int))=false:=by simp
  go_enter func39,ntmps39
  go_wp2_with fail
  go_loopw [13] (fun i wr=>∃ k:Nat,k≤n∧i = .int .i64 k∧xs.take k=ys.take k∧Below w.heap.size w wr) (fun i _=>n-(intOf i).toNat)
  case atStart=>exact ⟨0,Nat.zero_le _,rfl,rfl,Below.refl _ _⟩
  case round =>
   obtain ⟨k,hk,rfl,heq,hbel⟩:=hrel
   have HEQ:=hD heq
   have WB:=hD hbel
   clear heq hbel
   by_cases hlt:k<n
   ·have hkl:((k:Nat):Int)<(n:Int):=by omega
    have XA:=hD (H.o.below (WB.o.mono hh))
    have YA:=hD (H'.o.below (WB.o.mono hh'))
    obtain ⟨b,o,x,rfl,_,_,hx,hat⟩:=XA.o.at_ (sz:=2) (fun y _=>zcY y) hlt
    obtain ⟨b',o',y,rfl,_,_,hy,hat'⟩:=YA.o.at_ (sz:=2) (fun y _=>zcY y) hlt
    have HX:=hD hx
    have HY:=hD hy
    have ST:Hid (EqR w wr b (o+k*2) b' (o'+k*2) (famL x) (famL y)):=hD ⟨hat,hat',WB.o⟩
    obtain ⟨r,hr⟩:∃ r,(!decide (x=y))=r:=⟨_,rfl⟩
    have HR:=hD hr
    clear hx hy hat hat' XA YA hr
    go_wp2_with fail
    refine wp_region_held_drew (S:=fun z=>EqR w z b (o+k*2) b' (o'+k*2) (famL x) (famL y)) (by kernel_rfl) ST.o.drew (fun hHeld=>?_)
    refine rgT 0 ?_
    refine rgT 1 ?_
    refine rgT 2 ?_
    refine rgV 3 (.agg (famC x)) (fun w' hSw=>zaw (.tmp 18) rfl b (o+k*2) rfl hSw.x) ?_
    refine rgT 4 ?_
    refine rgT 5 ?_
    refine rgT 6 ?_
    refine rgV 7 (.agg (famC y)) (fun w' hSw=>zaw (.tmp 22) rfl b' (o'+k*2) rfl hSw.y) ?_
    refine rgV 8 (.bool r) (fun w' hSw=>znc (.tmp 19) (.tmp 23) rfl rfl rfl r HR.o) ?_
    refine wpAnyH_done (by kernel_rfl) ?_ _
    cases r
    ·have HNX:=hD (zcT HEQ.o HX.o HY.o (by simpa using HR.o))
     go_wp2_with fail
     go_roundw
     case rel=>exact ⟨k+1,by omega,by go_num,HNX.o,zaj WB.o⟩
     case measure=>simp [intOf];omega
    ·have HF:=hD (decide_eq_false (zb7 HX.o HY.o (by simpa using HR.o)))
     go_wp2_with fail
     go_ret
     exact ⟨by rw [HF.o];rfl,zaj WB.o⟩
   ·obtain rfl:k=n:=by omega
    have hkl:¬ ((k:Nat):Int)<(k:Int):=by omega
    have HF:Hid (decide (xs=ys)=true):=hD (decide_eq_true (by
     have:=HEQ.o
     rw [List.take_of_length_le (by rw [HLX.o];exact lr),List.take_of_length_le (by rw [HLY.o];exact lr)] at this
     exact this))
    go_wp2_with fail
    go_ret
    exact ⟨by rw [HF.o];rfl,WB.o⟩
 ·have hnn:((n:Int) != (m:Int))=true:=by
   rw [bne_iff_ne]
   omega
  have HF:=hD (decide_eq_false (zcs HLX.o HLY.o hnm))
  clear hnm
  go_enter func39,ntmps39
  go_wp2_with fail
  go_ret
  exact ⟨by rw [HF.o];rfl,Below.refl _ _⟩
theorem zdM (w:World) (n lo hi:Int):Calls prog 59 #[.int .i64 n,.int .i64 lo,.int .i64 hi] w fun e w'=>e = .returned (.bool (decide (lo≤n∧n≤hi)))∧w=w':=by
 by_cases h1:lo≤n <;> by_cases h2:n≤hi
 all_goals
  go_enter func59,ntmps59
  go_wp2
  go_ret
  exact ⟨by simp [h1,h2],rfl⟩
theorem zkA (w:World):Calls prog 61 #[] w fun e w'=>e = .returned (.agg (zaq 4 zas))∧Below w.heap.size w w':=by
 have HB:Hid (∀ cs,cs=zaq 4 zas→Blk (w.alloc (.cells cs 26)) w.heap.size 26 (zaq 4 zas)∧Below w.heap.size w (w.alloc (.cells cs 26))):=hD (by rintro _ rfl;exact ⟨Blk.new w _ _,(Below.refl _ _).alloc lr _⟩)
 go_enter func61,ntmps61
 go_wp2
 (try simp only [Exit.inBlock,Exit.then])
 exact zgz rfl rfl (HB.o _ (zew 4).symm).1 rfl rfl ⟨rfl,(HB.o _ (zew 4).symm).2⟩
end
end Go.Proofs.YtplpglfjcieloaaGreatDoor
