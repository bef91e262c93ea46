/-
  Which families are known, and the numbers that stand for their sizes: package family, in whatever memory. No condition.
  Plain mathematics of opens, heads and notes: which are right, what is written of them, what is read of any bytes, and that what is written is read. Nothing here speaks of the program.
  Families, opens and notes as cells and as memory; rows of families: Index, Contains and Equal of package slices; within, nobody, rightFamilies, rightOpen, rightNote, sameOpen, sameNote of package message. No condition beyond sizes that fit memory.
  Which opens and notes are right, and which are the same: rightFamilies, rightOpen, rightNote, sameOpen, sameNote of package message, in whatever memory. No condition beyond sizes that fit memory.
  Which opens are the same: sameOpen of package message, in whatever memory. No condition beyond sizes that fit memory.
  How messages are written: mark, head, familyBytes, counted, capabilities, openBytes of package message, in whatever memory. No condition beyond sizes that fit memory.
-/
import Derived.Lib.MakeNoZero
import Derived.Test.YtjindligkhdddaaGreatDoorSDAN
import Derived.Test.YtjindligkhdddaaGreatDoorSDAO
set_option linter.unusedVariables false
set_option linter.unusedSimpArgs false
namespace Go.Proofs.YtjindligkhdddaaGreatDoor
section
open Go.RowKit
theorem zlH (b:List UInt8):zab b (b.length:Nat)=b:=by
 unfold zab zaY
 rw [if_pos (by simp)]
 simp
theorem zcv (x:UInt8) (b:List UInt8):zan (x::b) 1=x.toNat∧zaf (x::b) 1=b∧za7 (x::b) 1=true:=by
 have hb:zaY (x::b) 1=true:=by unfold zaY;simp;omega
 refine ⟨?_,?_,?_⟩
 ·unfold zan zab;rw [if_pos (by decide),if_pos hb];simp [big]
 ·unfold zaf zae;rw [if_pos (by decide),if_pos hb];simp
 ·unfold za7;rw [hb];rfl
theorem zmr (x y:UInt8) (b:List UInt8):zan (x::y::b) 2=x.toNat*256+y.toNat∧zaf (x::y::b) 2=b∧za7 (x::y::b) 2=true:=by
 have hb:zaY (x::y::b) 2=true:=by unfold zaY;simp;omega
 refine ⟨?_,?_,?_⟩
 ·unfold zan zab;rw [if_pos (by decide),if_pos hb];simp [big]
 ·unfold zaf zae;rw [if_pos (by decide),if_pos hb];simp
 ·unfold za7;rw [hb];rfl
theorem zrp (a b:List UInt8):zab (a++b) (a.length:Nat)=a∧zae (a++b) (a.length:Nat)=b:=⟨(zdS a b).1,(zdS a b).2.1⟩
def zdG (s f:Int):Bool:=decide (s=4∨s=16)&&decide (f=5∨f=128)
def numN (s:Int):Int:=if s=4 then 1 else if s=16 then 2 else 0
def szN (n:Int):Int:=if n=1 then 4 else if n=2 then 16 else 0
def famL (f:Int × Int):List Value:=[.int .i64 f.1,.int .i64 f.2]
def famC (f:Int × Int):Array Value:=#[.int .i64 f.1,.int .i64 f.2]
theorem zi5 (w:World) (s:Int):Calls Tryz.prog 53 #[.int .i64 s] w fun e w'=>e = .returned (.int .u8 (numN s))∧w=w':=by
 unfold numN
 by_cases h1:s=4
 ·rw [if_pos h1]
  go_enter Tryz.func53,Tryz.ntmps53
  go_wp2
  go_ret
  exact ⟨rfl,rfl⟩
 ·rw [if_neg h1]
  by_cases h2:s=16
  all_goals
   first | rw [if_pos h2] | rw [if_neg h2]
   go_enter Tryz.func53,Tryz.ntmps53
   go_wp2
   go_ret
   exact ⟨rfl,rfl⟩
theorem zmF (w:World) (n:Int):Calls Tryz.prog 115 #[.int .i64 n] w fun e w'=>e = .returned (.int .i64 (szN n))∧w=w':=by
 unfold szN
 by_cases h1:n=1
 ·rw [if_pos h1]
  go_enter Tryz.func115,Tryz.ntmps115
  go_wp2
  go_ret
  exact ⟨rfl,rfl⟩
 ·rw [if_neg h1]
  by_cases h2:n=2
  all_goals
   first | rw [if_pos h2] | rw [if_neg h2]
   go_enter Tryz.func115,Tryz.ntmps115
   go_wp2
   go_ret
   exact ⟨rfl,rfl⟩
theorem zg4 (w:World) (f:Int × Int):Calls Tryz.prog 29 #[.agg (famC f)] w fun e w'=>e = .returned (.bool (zdG f.1 f.2))∧Below w.heap.size w w':=by
 have HB:=hide (Blk.new w 54 (famC f))
 obtain ⟨s,f⟩:=f
 have c0:(w.alloc (.cells (famC (s,f)) 54)).cell? ⟨w.heap.size,0,none⟩=some (.int .i64 s):=HB.out.cell 0
 have c1:(w.alloc (.cells (famC (s,f)) 54)).cell? ⟨w.heap.size,1,none⟩=some (.int .i64 f):=HB.out.cell 1
 have W0:=hide ((Below.refl w.heap.size w).alloc (Nat.le_refl _) (.cells (famC (s,f)) 54))
 clear HB
 show Calls _ _ _ _ fun e w'=>e = .returned (.bool (decide (s=4∨s=16)&&decide (f=5∨f=128)))∧_
 have HN:=hide (zi5 (w.alloc (.cells (famC (s,f)) 54)) s)
 have hk:(numN s=0∧decide (s=4∨s=16)=false)∨(numN s=1∧decide (s=4∨s=16)=true)∨(numN s=2∧decide (s=4∨s=16)=true):=by
  unfold numN
  by_cases h1:s=4
  ·simp [h1]
  ·by_cases h2:s=16 <;> simp [h1,h2]
 by_cases h5:f=5∨f=128
 ·rw [decide_eq_true h5]
  rcases hk with ⟨hn,hk⟩ | ⟨hn,hk⟩ | ⟨hn,hk⟩ <;> rcases h5 with rfl | rfl
  all_goals
   rw [hk]
   rw [hn] at HN
   clear hn hk
   go_enter Tryz.func29,Tryz.ntmps29
   go_wp2_with fail
   refine HN.out.mono ?_
   rintro e w1 ⟨rfl,rfl⟩
   go_wp2
   go_ret
   exact ⟨rfl,W0.out⟩
 ·rw [decide_eq_false h5]
  have g5:(f==5)=false:=beq_eq_false_iff_ne.2 (fun e=>h5 (.inl e))
  have g6:(f==128)=false:=beq_eq_false_iff_ne.2 (fun e=>h5 (.inr e))
  rcases hk with ⟨hn,hk⟩ | ⟨hn,hk⟩ | ⟨hn,hk⟩
  all_goals
   rw [hk]
   rw [hn] at HN
   clear hn hk h5
   go_enter Tryz.func29,Tryz.ntmps29
   go_wp2_with fail
   refine HN.out.mono ?_
   rintro e w1 ⟨rfl,rfl⟩
   go_wp2
   go_ret
   exact ⟨rfl,W0.out⟩
end
section
open Go.RowKit
structure Opn where
 sn:Int
 hd:Int
 is:Int
 ib:List UInt8
 fl:List (Int × Int)
 rf:Bool
def kF (f:Int × Int):Bool:=zdG f.1 f.2
def zpk (l:List (Int × Int)):Bool:=l.all kF&&decide l.Nodup
structure Cap where
 sn:Int
 fl:List (Int × Int)
 rf:Bool
def fam4 (v:List UInt8):Int × Int:=(szN (zan v 2:Nat),(zan (zae (zaf v 2) 1) 1:Nat))
def capV (k:Nat) (v:List UInt8) (o:Cap):Option Cap :=
 if k=1 then if v.length=4 then some (if kF (fam4 v)=true∧fam4 v ∉ o.fl then { o with fl:=o.fl++[fam4 v] } else o) else none
 else if k=2 then some { o with rf:=true }
 else if k=65 then if v.length=4 then some { o with sn:=(big v:Nat) } else none
 else some o
def zg8:Nat→List UInt8→Cap→Option Cap
 | 0,_,o=>some o
 | _+1,[],o=>some o
 | _+1,[_],_=>none
 | n+1,k::l::s,o=>if l.toNat≤s.length then match capV k.toNat (s.take l.toNat) o with
  | none=>none
  | some o'=>zg8 n (s.drop l.toNat) o' else none
def zfW:Nat→List UInt8→Cap→Cap × Option Int
 | 0,_,o=>(o,none)
 | _+1,[],o=>(o,none)
 | n+1,k::r,o=>if k=2 then match r with
  | []=>(o,some 0)
  | l::s=>if l.toNat≤s.length then match zg8 l.toNat (s.take l.toNat) o with
   | none=>(o,some 0)
   | some o'=>zfW n (s.drop l.toNat) o' else (o,some 0)
  else (o,some 4)
def zdE (b:List UInt8):Bool:=decide (10≤b.length∧b.length=10+(b.getD 9 0).toNat)
def opHd (b:List UInt8):Int:=(big ((b.drop 3).take 2):Nat)
def znN (b:List UInt8):Cap × Option Int:=zfW (b.drop 10).length (b.drop 10) ⟨(big ((b.drop 1).take 2):Nat),[],false⟩
def opOf (b:List UInt8) (c:Cap):Opn:=⟨c.sn,opHd b,4,pad ((b.drop 5).take 4),c.fl,c.rf⟩
def zdq (b:List UInt8):Option Int :=
 if zdE b=false then some 0 else if b.getD 0 0≠4 then some 1 else match (znN b).2 with
  | some s=>some s
  | none=>if (znN b).1.sn=0 then some 2 else if opHd b=1∨opHd b=2 then some 6 else if pad ((b.drop 5).take 4)=zat then some 3 else none
def opRd (b:List UInt8):Opn:=opOf b (znN b).1
def zts (s:Int):List UInt8:=if s=1 then [0,4] else []
def zi0 (k:Int):Int:=if k=1 then 29 else if k=2 then 23 else if k=3 then 21 else if k=4 then 19 else if k=5 then 23 else 0
def zk2 (k:Int):Int:=if k=1∨k=2∨k=3 then 4096 else if k=4 then 19 else if k=5 then 23 else 0
def mkH:List UInt8:=List.replicate 16 255
def lenH (b:List UInt8):Nat:=big ((b.drop 16).take 2)
def zs4 (b:List UInt8):Nat:=(b.getD 18 0).toNat
def zeJ (m:Bool) (l k:Int):Int :=
 if m=false then 1 else if ¬ (19≤l∧l≤4096) then 2 else if zk2 k=0 then 3 else if ¬ (zi0 k≤l∧l≤zk2 k) then 2 else 0
def zmD (b:List UInt8):Int:=zeJ (decide (b.take 16=mkH)) (lenH b) (zs4 b)
def zyc (s:Int) (b:List UInt8):List UInt8:=if s=2 then be 2 (lenH b) else if s=3 then [UInt8.ofNat (zs4 b)] else []
def zqM (k:Int) (n:Nat):List UInt8:=mkH++(be 2 (19+n)++[UInt8.ofNat k.toNat])
theorem zvn {f:Int × Int} (h:kF f=true):f=(4,5)∨f=(4,128)∨f=(16,5)∨f=(16,128):=by
 obtain ⟨s,f⟩:=f
 unfold kF zdG at h
 simp only [Bool.and_eq_true,decide_eq_true_eq] at h
 obtain ⟨rfl | rfl,rfl | rfl⟩:=h <;> simp
theorem zms {α:Type} [DecidableEq α]:∀ (l s:List α),l.Nodup→(∀ x∈l,x∈s)→l.length≤s.length
 | [],_,_,_=>Nat.zero_le _
 | a::l,s,hd,hs=>by
  rw [List.nodup_cons] at hd
  have h1:=hs a (by simp)
  have h2:=zms l (s.erase a) hd.2 (fun x hx=>(List.mem_erase_of_ne (fun e=>by subst e;exact hd.1 hx)).2 (hs x (by simp [hx])))
  have h3:=List.length_erase_of_mem h1
  have h4:=List.length_pos_of_mem h1
  simp only [List.length_cons]
  omega
theorem ztl {l:List (Int × Int)} (h:zpk l=true):l.length≤4:=by
 unfold zpk at h
 rw [Bool.and_eq_true,decide_eq_true_eq,List.all_eq_true] at h
 refine zms l [(4,5),(4,128),(16,5),(16,128)] h.2 (fun x hx=>?_)
 rcases zvn (h.1 x hx) with rfl | rfl | rfl | rfl <;> decide
end
section
set_option maxRecDepth 20000
set_option maxHeartbeats 1000000
open Go.RowKit
theorem zds (f:Int × Int):(famL f).length=2:=rfl
theorem zvA (f:Int × Int):∀ u∈famL f,u.oneCell'=true:=fun u hu=>by
 simp only [famL,List.mem_cons,List.not_mem_nil,or_false] at hu
 rcases hu with rfl | rfl <;> rfl
theorem zwq (w:World) (d:Nat) (f g:Int × Int):(Op.equalIn (d+4) 54 (.agg (famC f)) (.agg (famC g))).run Tryz.prog w = .ok (decide (f=g)) w:=by
 have a3:=Tryz.isAgg3
 have hS:Tryz.prog.underlying 54=some (.struct (Tryz.prog.fieldsOf 54)):=by kernel_rfl
 have hp:Tryz.prog.stoodInHeld 54=false:=by kernel_rfl
 have p0:∀ f:Int × Int,(part 3 (famC f) 0).run Tryz.prog w = .ok (.int .i64 f.1) w:=fun f=>by simp [part,a3,famC]
 have p1:∀ f:Int × Int,(part 3 (famC f) 1).run Tryz.prog w = .ok (.int .i64 f.2) w:=fun f=>by simp [part,a3,famC]
 rw [run_equalIn_agg w (d+3) 54 _ _ hS hp]
 simp only [Program.fieldsOf,Tryz.underlying54]
 have hq:((f.1==g.1)&&((f.2==g.2)&&true))=decide (f=g):=by
  obtain ⟨a,b⟩:=f
  obtain ⟨c,e⟩:=g
  by_cases h1:a=c <;> by_cases h2:b=e <;> simp [h1,h2]
 rw [← hq]
 refine za4 w (d+3) (of_decide_eq_true (by kernel_rfl)) (p0 f) (p0 g) (run_equalIn_int (P:=Tryz.prog) w (d+2) 3 .i64 .i64 f.1 g.1 Tryz.underlying3) ?_
 refine za4 w (d+3) (of_decide_eq_true (by kernel_rfl)) (p1 f) (p1 g) (run_equalIn_int (P:=Tryz.prog) w (d+2) 3 .i64 .i64 f.2 g.2 Tryz.underlying3) ?_
 exact ze8 w (d+3)
section
variable {ops:Array Oper} {rest:List Oper} {o:Oper} {a:Act} {w:World} {Q:Exit→Act→World→Prop}
theorem ze6 (x y:Operand) (ho:o.op = .binOp .eql 54 x y 54) {f g:Int × Int} (hx:a.eval x = .agg (famC f)) (hy:a.eval y = .agg (famC g)) (b:Bool) (hb:decide (f=g)=b) :
  (execOp a.eval o).run Tryz.prog w = .ok (.value (.bool b)) w:=by
 subst hb
 have hg':=run_eqGuard_agg (P:=Tryz.prog) w .eql 54 x y (famC f) (famC g) (by kernel_rfl)
 have h:(binOp .eql 54 (.agg (famC f)) (.agg (famC g))).run Tryz.prog w = .ok (.bool (decide (f=g))) w:=by
  rw [run_eql_struct,show (10000:Nat)=9996+4 from rfl,zwq w 9996];rfl
 unfold execOp
 simp only [ho,hx,hy,Sem.run_bind,hg',Result.andThen_ok,h,Sem.run_pure]
theorem zmO (x y:Operand) (ho:o.op = .binOp .neq 54 x y 54) {f g:Int × Int} (hx:a.eval x = .agg (famC f)) (hy:a.eval y = .agg (famC g)) (b:Bool) (hb:(!decide (f=g))=b) :
  (execOp a.eval o).run Tryz.prog w = .ok (.value (.bool b)) w:=by
 subst hb
 have hg':=run_eqGuard_agg (P:=Tryz.prog) w .neq 54 x y (famC f) (famC g) (by kernel_rfl)
 have h:(binOp .neq 54 (.agg (famC f)) (.agg (famC g))).run Tryz.prog w = .ok (.bool (!decide (f=g))) w:=by
  rw [run_neq_struct,show (10000:Nat)=9996+4 from rfl,zwq w 9996];rfl
 unfold execOp
 simp only [ho,hx,hy,Sem.run_bind,hg',Result.andThen_ok,h,Sem.run_pure]
theorem zaM (p:Operand) (ho:o.op = .load 54 p) (b i:Nat) (hx:a.eval p = .pointer (some ⟨b,i,none⟩)) {f:Int × Int} (h:w.rangeAt b i (famL f)) :
  (execOp a.eval o).run Tryz.prog w = .ok (.value (.agg (famC f))) w:=by
 unfold execOp
 simp only [ho,hx,Instr.loadAt,Instr.sureAddr,Sem.run_bind,Sem.run_pure,Result.andThen_ok,run_loadVar_mid w b i 54 _ _ h Tryz.underlying54 rfl (by show _=some 2;kernel_rfl)]
 rfl
theorem zb4 (hgd:o.guard=none) (p y:Operand) (ho:o.op = .store 54 p y) (g:Nat) (hx:a.eval p = .pointer (some ⟨g,0,none⟩)) (f:Int × Int) (hy:a.eval y = .agg (famC f)) {t:TypeId} {old:Array Value} (h:Blk w g t old) (hold:old.size=2)
  (hk:∀ w',Blk w' g t (famC f)→w.grownBy w' (some g)→wpList Tryz.prog ops Q rest (a.put o.dst undef) w'):wpList Tryz.prog ops Q (o::rest) a w :=
 wpList_store_row hgd 54 p y ho g (famC f) hx hy t old h (by show _=some 2;kernel_rfl) (by rw [hold];rfl) (by simp [famC,Value.oneCell']) (hk _ (h.setRow _) (zav _ _ _))
end
theorem zi9 {o:Oper} {a:Act} {w:World} (x y:Operand) (ho:o.op = .binOp .eql 40 x y 40) {s t:Int} {xs ys:List UInt8} (hx:a.eval x = .agg (zas s xs)) (hy:a.eval y = .agg (zas t ys)) (lx:xs.length=16) (ly:ys.length=16) (b:Bool) (hb:decide (s=t∧xs=ys)=b) :
  (execOp a.eval o).run Tryz.prog w = .ok (.value (.bool b)) w:=by
 subst hb
 have hg':=run_eqGuard_agg (P:=Tryz.prog) w .eql 40 x y (zas s xs) (zas t ys) (by kernel_rfl)
 unfold execOp
 simp only [ho,hx,hy,Sem.run_bind,hg',Result.andThen_ok,zll s t xs ys lx ly,Sem.run_pure]
theorem zqH (w:World) (lo hi:Nat) (A:Option Addr) (n c:Nat) (l:List (Int × Int)) (f:Int × Int) (h:AtG famL w lo hi A n l) (hh:hi≤w.heap.size) (hn:n≤100000000000000) :
  Calls Tryz.prog 116 #[.slice A n c,.agg (famC f)] w fun e w'=>∃ r:Int,e = .returned (.int .i64 r)∧decide (0≤r)=decide (f∈l)∧Below w.heap.size w w':=by
 have H:=hide h
 have HL:=hide h.len
 have HB:=hide (Blk.new w 54 (famC f))
 have W0:=hide ((Below.refl w.heap.size w).alloc (Nat.le_refl _) (.cells (famC f) 54))
 clear h
 go_enter Tryz.func116,Tryz.ntmps116
 go_wp2_with fail
 generalize w.alloc (.cells (famC f) 54)=w0 at *
 go_loopw [8] (fun i wr=>∃ k:Nat,k≤n∧i = .int .i64 k∧(∀ x∈l.take k,f≠x)∧Below w0.heap.size w0 wr) (fun i _=>n-(intOf i).toNat)
 case atStart=>exact ⟨0,Nat.zero_le _,rfl,(fun x hx=>by simp at hx),Below.refl _ _⟩
 case round =>
  obtain ⟨k,hk,rfl,hall,hwr⟩:=hrel
  have HA:=hide hall
  have WR:=hide hwr
  have WB:=hide (zaa W0.out hwr (Nat.le_refl _))
  clear hall hwr
  by_cases hlt:k<n
  ·have XA:=hide (H.out.below (WB.out.mono hh))
   obtain ⟨b,o,x,rfl,_,_,hx,hat⟩:=XA.out.at_ (sz:=2) (fun y _=>zds y) hlt
   have HX:=hide hx
   have HAT:=hide hat
   obtain ⟨r,hr⟩:∃ r,decide (f=x)=r:=⟨_,rfl⟩
   have HR:=hide hr
   have hkl:((k:Nat):Int)<(n:Int):=by omega
   clear hx hat hr XA
   have ST:Hid (EqR w wr w.heap.size 0 b (o+k*2) (famL f) (famL x)):=hide ⟨zah (l:=famL f) (HB.out.over WR.out),HAT.out,WB.out⟩
   go_wp2_with fail
   refine wp_region_held_drew (S:=fun z=>EqR w z w.heap.size 0 b (o+k*2) (famL f) (famL x)) (by kernel_rfl) ST.out.drew (fun hHeld=>?_)
   refine rgV 0 (.agg (famC f)) (fun w' hSw=>zaM (.tmp 3) rfl w.heap.size 0 rfl hSw.x) ?_
   refine rgT 1 ?_
   refine rgT 2 ?_
   refine rgT 3 ?_
   refine rgV 4 (.agg (famC x)) (fun w' hSw=>zaM (.tmp 14) rfl b (o+k*2) rfl hSw.y) ?_
   refine rgV 5 (.bool r) (fun w' hSw=>ze6 (.tmp 11) (.tmp 15) rfl rfl rfl r HR.out) ?_
   refine wpAnyH_done (by kernel_rfl) ?_ _
   cases r
   ·have HNX:Hid (∀ y∈l.take (k+1),f≠y):=hide (by
     intro y hy
     rw [List.take_add_one,HX.out] at hy
     rcases List.mem_append.1 hy with hy | hy
     ·exact HA.out y hy
     ·rw [show y=x by simpa using hy];exact of_decide_eq_false HR.out)
    go_wp2_with fail
    go_roundw
    case rel=>exact ⟨k+1,by omega,by go_num,HNX.out,zam WR.out⟩
    case measure=>simp [intOf];omega
   ·have HF:Hid (decide (f∈l)=true):=hide (decide_eq_true (by rw [of_decide_eq_true HR.out];exact List.mem_of_getElem? HX.out))
    go_wp2_with fail
    go_ret
    exact ⟨_,rfl,by rw [HF.out];exact decide_eq_true (by omega),zam WB.out⟩
  ·obtain rfl:k=n:=by omega
   have HF:Hid (decide (f∈l)=false):=hide (by
    rw [decide_eq_false_iff_not]
    intro hm
    refine HA.out f ?_ rfl
    rw [List.take_of_length_le (by rw [HL.out];exact Nat.le_refl _)];exact hm)
   go_wp2
   go_ret
   exact ⟨_,rfl,by rw [HF.out];rfl,WB.out⟩
theorem zls (w:World) (lo hi:Nat) (A:Option Addr) (n c:Nat) (l:List (Int × Int)) (f:Int × Int) (h:AtG famL w lo hi A n l) (hh:hi≤w.heap.size) (hn:n≤100000000000000) :
  Calls Tryz.prog 79 #[.slice A n c,.agg (famC f)] w fun e w'=>e = .returned (.bool (decide (f∈l)))∧Below w.heap.size w w':=by
 have HB:=hide (zah (l:=famL f) (Blk.new w 54 (famC f)))
 have W0:=hide ((Below.refl w.heap.size w).alloc (Nat.le_refl _) (.cells (famC f) 54))
 have HC:=hide (zqH (w.alloc (.cells (famC f) 54)) lo hi A n c l f (h.below (W0.out.mono hh)) (Nat.le_trans hh W0.out.size) hn)
 clear h
 go_enter Tryz.func79,Tryz.ntmps79
 go_wp2_with (with_reducible refine zad rfl (zaM (.tmp 3) rfl w.heap.size 0 rfl HB.out) ?_)
 refine HC.out.mono ?_
 rintro e w1 ⟨r,rfl,hr,hb1⟩
 have HR:=hide hr
 have W1:=hide (zaa W0.out hb1 (Nat.le_refl _))
 clear hb1 hr
 by_cases h0:(0:Int)≤r
 all_goals
  go_wp2
  go_ret
  exact ⟨by rw [← HR.out];simp [h0],W1.out⟩
theorem zx8 (w:World) (lo hi lo' hi':Nat) (A B:Option Addr) (n m c d:Nat) (xs ys:List (Int × Int)) (h:AtG famL w lo hi A n xs) (h':AtG famL w lo' hi' B m ys) (hh:hi≤w.heap.size) (hh':hi'≤w.heap.size) (hn:n≤100000000000000) :
  Calls Tryz.prog 97 #[.slice A n c,.slice B m d] w fun e w'=>e = .returned (.bool (decide (xs=ys)))∧Below w.heap.size w w':=by
 have H:=hide h
 have H':=hide h'
 have HLX:Hid (xs.length=n):=hide h.len
 have HLY:Hid (ys.length=m):=hide h'.len
 clear h h'
 by_cases hnm:n=m
 ·subst hnm
  have hnn:((n:Int) != (n:Int))=false:=by simp
  go_enter Tryz.func97,Tryz.ntmps97
  go_wp2_with fail
  go_loopw [13] (fun i wr=>∃ k:Nat,k≤n∧i = .int .i64 k∧xs.take k=ys.take k∧Below w.heap.size w wr) (fun i _=>n-(intOf i).toNat)
  case atStart=>exact ⟨0,Nat.zero_le _,rfl,rfl,Below.refl _ _⟩
  case round =>
   obtain ⟨k,hk,rfl,heq,hbel⟩:=hrel
   have HEQ:=hide heq
   have WB:=hide hbel
   clear heq hbel
   by_cases hlt:k<n
   ·have hkl:((k:Nat):Int)<(n:Int):=by omega
    have XA:=hide (H.out.below (WB.out.mono hh))
    have YA:=hide (H'.out.below (WB.out.mono hh'))
    obtain ⟨b,o,x,rfl,_,_,hx,hat⟩:=XA.out.at_ (sz:=2) (fun y _=>zds y) hlt
    obtain ⟨b',o',y,rfl,_,_,hy,hat'⟩:=YA.out.at_ (sz:=2) (fun y _=>zds y) hlt
    have HX:=hide hx
    have HY:=hide hy
    have ST:Hid (EqR w wr b (o+k*2) b' (o'+k*2) (famL x) (famL y)):=hide ⟨hat,hat',WB.out⟩
    obtain ⟨r,hr⟩:∃ r,(!decide (x=y))=r:=⟨_,rfl⟩
    have HR:=hide hr
    clear hx hy hat hat' XA YA hr
    go_wp2_with fail
    refine wp_region_held_drew (S:=fun z=>EqR w z b (o+k*2) b' (o'+k*2) (famL x) (famL y)) (by kernel_rfl) ST.out.drew (fun hHeld=>?_)
    refine rgT 0 ?_
    refine rgT 1 ?_
    refine rgT 2 ?_
    refine rgV 3 (.agg (famC x)) (fun w' hSw=>zaM (.tmp 18) rfl b (o+k*2) rfl hSw.x) ?_
    refine rgT 4 ?_
    refine rgT 5 ?_
    refine rgT 6 ?_
    refine rgV 7 (.agg (famC y)) (fun w' hSw=>zaM (.tmp 22) rfl b' (o'+k*2) rfl hSw.y) ?_
    refine rgV 8 (.bool r) (fun w' hSw=>zmO (.tmp 19) (.tmp 23) rfl rfl rfl r HR.out) ?_
    refine wpAnyH_done (by kernel_rfl) ?_ _
    cases r
    ·have HNX:=hide (zcO HEQ.out HX.out HY.out (by simpa using HR.out))
     go_wp2_with fail
     go_roundw
     case rel=>exact ⟨k+1,by omega,by go_num,HNX.out,zam WB.out⟩
     case measure=>simp [intOf];omega
    ·have HF:=hide (decide_eq_false (zb3 HX.out HY.out (by simpa using HR.out)))
     go_wp2_with fail
     go_ret
     exact ⟨by rw [HF.out];rfl,zam WB.out⟩
   ·obtain rfl:k=n:=by omega
    have hkl:¬ ((k:Nat):Int)<(k:Int):=by omega
    have HF:Hid (decide (xs=ys)=true):=hide (decide_eq_true (by
     have:=HEQ.out
     rw [List.take_of_length_le (by rw [HLX.out];exact Nat.le_refl _),List.take_of_length_le (by rw [HLY.out];exact Nat.le_refl _)] at this
     exact this))
    go_wp2_with fail
    go_ret
    exact ⟨by rw [HF.out];rfl,WB.out⟩
 ·have hnn:((n:Int) != (m:Int))=true:=by
   rw [bne_iff_ne]
   omega
  have HF:=hide (decide_eq_false (zcp HLX.out HLY.out hnm))
  clear hnm
  go_enter Tryz.func97,Tryz.ntmps97
  go_wp2_with fail
  go_ret
  exact ⟨by rw [HF.out];rfl,Below.refl _ _⟩
theorem ziU (w:World) (n lo hi:Int):Calls Tryz.prog 39 #[.int .i64 n,.int .i64 lo,.int .i64 hi] w fun e w'=>e = .returned (.bool (decide (lo≤n∧n≤hi)))∧w=w':=by
 by_cases h1:lo≤n <;> by_cases h2:n≤hi
 all_goals
  go_enter Tryz.func39,Tryz.ntmps39
  go_wp2
  go_ret
  exact ⟨by simp [h1,h2],rfl⟩
theorem zqo (w:World):Calls Tryz.prog 45 #[] w fun e w'=>e = .returned (.agg (zas 4 zat))∧Below w.heap.size w w':=by
 have HB:Hid (∀ cs,cs=zas 4 zat→Blk (w.alloc (.cells cs 40)) w.heap.size 40 (zas 4 zat)∧Below w.heap.size w (w.alloc (.cells cs 40))):=hide (by rintro _ rfl;exact ⟨Blk.new w _ _,(Below.refl _ _).alloc (Nat.le_refl _) _⟩)
 go_enter Tryz.func45,Tryz.ntmps45
 go_wp2
 (try simp only [Exit.inBlock,Exit.then])
 exact ziF rfl rfl (HB.out _ (zeg 4).symm).1 rfl rfl ⟨rfl,(HB.out _ (zeg 4).symm).2⟩
end
section
open Go.RowKit
structure OpP where
 sn:Int
 hd:Int
 is:Int
 ib:List UInt8
 fA:Option Addr
 fn:Nat
 fc:Nat
 fl:List (Int × Int)
 rf:Bool
def OpP.op (x:OpP):Opn:=⟨x.sn,x.hd,x.is,x.ib,x.fl,x.rf⟩
def opL (x:OpP):List Value:=.int .i64 x.sn :: .int .i64 x.hd::((.int .i64 x.is::bvs x.ib)++[.slice x.fA x.fn x.fc,.bool x.rf])
def opC (x:OpP):Array Value:=(opL x).toArray
structure OpAt (w:World) (lo hi:Nat) (x:OpP):Prop where
 row:AtG famL w lo hi x.fA x.fn x.fl
 c:x.fn≤x.fc
 ib:x.ib.length=16
structure NoP where
 c:Int
 s:Int
 dA:Option Addr
 dn:Nat
 dc:Nat
 dl:List UInt8
def noL (x:NoP):List Value:=[.int .i64 x.c,.int .i64 x.s,.slice x.dA x.dn x.dc]
def noC (x:NoP):Array Value:=(noL x).toArray
structure NoAt (w:World) (lo hi:Nat) (x:NoP):Prop where
 row:At w lo hi x.dA x.dn x.dl
 c:x.dn≤x.dc
section
variable {w w':World} {lo hi lo' hi':Nat} {x:OpP} {y:NoP}
theorem OpAt.keep (h:OpAt w lo hi x) (hk:∀ q:Addr,lo≤q.block→q.block<hi→w'.cell? q=w.cell? q):OpAt w' lo hi x:=⟨h.row.keep hk,h.c,h.ib⟩
theorem OpAt.below (h:OpAt w lo hi x) (hb:Below hi w w'):OpAt w' lo hi x:=⟨h.row.below hb,h.c,h.ib⟩
theorem OpAt.more (h:OpAt w lo hi x) (hl:lo'≤lo) (hh:hi≤hi'):OpAt w lo' hi' x:=⟨h.row.more hl hh,h.c,h.ib⟩
theorem NoAt.keep (h:NoAt w lo hi y) (hk:∀ q:Addr,lo≤q.block→q.block<hi→w'.cell? q=w.cell? q):NoAt w' lo hi y:=⟨h.row.keep hk,h.c⟩
theorem NoAt.below (h:NoAt w lo hi y) (hb:Below hi w w'):NoAt w' lo hi y:=⟨h.row.below hb,h.c⟩
theorem NoAt.more (h:NoAt w lo hi y) (hl:lo'≤lo) (hh:hi≤hi'):NoAt w lo' hi' y:=⟨h.row.more hl hh,h.c⟩
end
theorem zkW {x:OpP} (h:x.ib.length=16):(opL x).length=21:=by simp [opL,bvs,h]
theorem zeq {x:OpP} (h:x.ib.length=16):(opC x).size=21:=by unfold opC;rw [List.size_toArray,zkW h]
theorem zsA (x:OpP):∀ u∈opL x,u.oneCell'=true:=fun u hu=>by
 simp only [opL,List.mem_cons,List.mem_append,List.not_mem_nil,or_false] at hu
 rcases hu with rfl | rfl | (rfl | hu) | rfl | rfl
 all_goals first | rfl | exact zbI _ u hu
theorem zkX (x:OpP):(opC x).all (·.oneCell')=true:=by
 rw [Array.all_eq_true_iff_forall_mem]
 intro u hu
 exact zsA x u (by unfold opC at hu;simpa using hu)
theorem zo6 {x:OpP} (h:x.ib.length=16) (j:Nat):(opL x)[19+j]?=[Value.slice x.fA x.fn x.fc,.bool x.rf][j]?:=by
 have e:19+j=(17+j)+2:=by omega
 rw [e]
 simp only [opL,List.getElem?_cons_succ]
 rw [List.getElem?_append_right (by simp [bvs,h])]
 simp [bvs,h]
def zjl (z:World) (g i:Nat) (x:OpP):Prop :=
 z.cell? ⟨g,i,none⟩=some (.int .i64 x.sn)∧z.cell? ⟨g,i+1,none⟩=some (.int .i64 x.hd)∧z.cell? ⟨g,i+2,none⟩=some (.int .i64 x.is)∧z.cell? ⟨g,i+19,none⟩=some (.slice x.fA x.fn x.fc)∧z.cell? ⟨g,i+20,none⟩=some (.bool x.rf)∧True
theorem zkV {z:World} {g i:Nat} {x:OpP} (h:z.rangeAt g i (opL x)) (hb:x.ib.length=16):zjl z g i x :=
 ⟨h 0 _ rfl,h 1 _ rfl,h 2 _ rfl,h 19 _ (zo6 hb 0),h 20 _ (zo6 hb 1),trivial⟩
theorem znL {z:World} {g i:Nat} {x:OpP} (h:z.rangeAt g i (opL x)):z.rangeAt g (i+2) (.int .i64 x.is::bvs x.ib):=fun j u hu=>by
 have h1:=h (2+j) u (by
  have e:2+j=j+2:=by omega
  rw [e]
  simp only [opL,List.getElem?_cons_succ]
  rw [List.getElem?_append_left (List.getElem?_eq_some_iff.1 hu).1]
  exact hu)
 rwa [← Nat.add_assoc] at h1
def zyC (z:World) (g i:Nat) (x:NoP):Prop :=
 z.cell? ⟨g,i,none⟩=some (.int .i64 x.c)∧z.cell? ⟨g,i+1,none⟩=some (.int .i64 x.s)∧z.cell? ⟨g,i+2,none⟩=some (.slice x.dA x.dn x.dc)
theorem zpd {z:World} {g i:Nat} {x:NoP} (h:z.rangeAt g i (noL x)):zyC z g i x:=⟨h 0 _ rfl,h 1 _ rfl,h 2 _ rfl⟩
structure Two (w z:World) (t:TypeId) (L M:List Value):Prop where
 x:z.rangeAt w.heap.size 0 L
 y:z.rangeAt (w.heap.size+1) 0 M
 bl:Below w.heap.size w z
section
variable {w z q:World} {t:TypeId} {L M:List Value}
theorem Two.start (w:World) (t:TypeId) (L M:List Value) {X Y:Array Value} (hX:L.toArray=X) (hY:M.toArray=Y):Two w ((w.alloc (.cells X t)).alloc (.cells Y t)) t L M:=by
 subst hX hY
 have h1:=Blk.new (w.alloc (.cells L.toArray t)) t M.toArray
 rw [show (w.alloc (.cells L.toArray t)).heap.size=w.heap.size+1 by simp] at h1
 exact ⟨zah ((Blk.new w t L.toArray).alloc _),zah h1,((Below.refl _ _).alloc (Nat.le_refl _) _).alloc (by simp) _⟩
theorem Two.on (h:Two w z t L M) (hb:Below z.heap.size z q):Two w q t L M :=
 ⟨fun j u hu=>by have h1:=h.x j u hu;rw [hb.cell (World.block_lt_of_cell? _ _ h1)];exact h1,fun j u hu=>by have h1:=h.y j u hu;rw [hb.cell (World.block_lt_of_cell? _ _ h1)];exact h1,zaa h.bl hb (Nat.le_refl _)⟩
end
def zj4 (x y:NoP):Bool:=(x.c==y.c)&&((x.s==y.s)&&decide (x.dl=y.dl))
theorem zl2 (w:World) (lo hi lo' hi':Nat) (x y:NoP) (h:NoAt w lo hi x) (h':NoAt w lo' hi' y) (hh:hi≤w.heap.size) (hh':hi'≤w.heap.size) :
  Calls Tryz.prog 56 #[.agg (noC x),.agg (noC y)] w fun e w'=>e = .returned (.bool (zj4 x y))∧Below w.heap.size w w':=by
 have S0:=Two.start w 30 (noL x) (noL y) (X:=noC x) (Y:=noC y) rfl rfl
 obtain ⟨c0,c1,c2⟩:=zpd S0.x
 obtain ⟨d0,d1,d2⟩:=zpd S0.y
 simp only [Nat.zero_add] at c0 c1 c2 d0 d1 d2
 have W0:=hide S0.bl
 have HX:=hide (h.row.below (S0.bl.mono hh))
 have HY:=hide (h'.row.below (S0.bl.mono hh'))
 clear S0 h h'
 unfold zj4
 obtain ⟨r1,h1⟩:∃ r,(x.c==y.c)=r:=⟨_,rfl⟩
 obtain ⟨r2,h2⟩:∃ r,(x.s==y.s)=r:=⟨_,rfl⟩
 rw [h1,h2]
 cases r1 <;> cases r2
 all_goals
  go_enter Tryz.func56,Tryz.ntmps56
  go_wp2_with (go_at_call 18;refine (zb2 _ _ _ _ _ _ _ _ _ _ _ _ _ HX.out HY.out).mono ?_;rintro e w1 ⟨rfl,rfl⟩)
  go_ret
  exact ⟨by simp,W0.out⟩
end
section
open Go.RowKit
def zhm (x y:OpP):Bool:=(x.sn==y.sn)&&((x.hd==y.hd)&&(decide (x.is=y.is∧x.ib=y.ib)&&((x.rf==y.rf)&&decide (x.fl=y.fl))))
set_option maxRecDepth 20000 in
set_option maxHeartbeats 4000000 in
theorem zl1 (w:World) (lo hi lo' hi':Nat) (x y:OpP) (h:OpAt w lo hi x) (h':OpAt w lo' hi' y) (hh:hi≤w.heap.size) (hh':hi'≤w.heap.size) (hn:x.fn≤100000000000000) :
  Calls Tryz.prog 54 #[.agg (opC x),.agg (opC y)] w fun e w'=>e = .returned (.bool (zhm x y))∧Below w.heap.size w w':=by
 have S0:=Two.start w 43 (opL x) (opL y) (X:=opC x) (Y:=opC y) rfl rfl
 have AX:=hide (znL S0.x)
 have AY:=hide (znL S0.y)
 have KX:=zkV S0.x h.ib
 have KY:=zkV S0.y h'.ib
 unfold zjl at KX KY
 simp only [Nat.zero_add] at KX KY AX AY
 obtain ⟨c0,c1,c2,c3,c4,_⟩:=KX
 obtain ⟨d0,d1,d2,d3,d4,_⟩:=KY
 have W0:=hide S0.bl
 have HX:=hide (h.row.below (S0.bl.mono hh))
 have HY:=hide (h'.row.below (S0.bl.mono hh'))
 have HI:=hide h.ib
 have HJ:=hide h'.ib
 have g1:hi≤((w.alloc (.cells (opC x) 43)).alloc (.cells (opC y) 43)).heap.size:=Nat.le_trans hh S0.bl.size
 have g2:hi'≤((w.alloc (.cells (opC x) 43)).alloc (.cells (opC y) 43)).heap.size:=Nat.le_trans hh' S0.bl.size
 clear S0 h h'
 unfold zhm
 obtain ⟨r1,h1⟩:∃ r,(x.sn==y.sn)=r:=⟨_,rfl⟩
 obtain ⟨r2,h2⟩:∃ r,(x.hd==y.hd)=r:=⟨_,rfl⟩
 obtain ⟨r3,h3⟩:∃ r,decide (x.is=y.is∧x.ib=y.ib)=r:=⟨_,rfl⟩
 obtain ⟨r4,h4⟩:∃ r,(x.rf==y.rf)=r:=⟨_,rfl⟩
 have H3:=hide h3
 have F:Hid (((x.sn==y.sn)&&((x.hd==y.hd)&&(decide (x.is=y.is∧x.ib=y.ib)&&((x.rf==y.rf)&&decide (x.fl=y.fl)))))=(r1&&(r2&&(r3&&(r4&&decide (x.fl=y.fl)))))):=hide (by rw [h1,h2,h3,h4])
 rw [F.out]
 clear h3 F
 cases r1
 rotate_left
 cases r2
 rotate_left
 cases r3
 rotate_left
 cases r4
 all_goals
  go_enter Tryz.func54,Tryz.ntmps54
  go_wp2_with (first
   | ((with_reducible refine zaN ?_ (.tmp 18) rfl w.heap.size 2 rfl AX.out HI.out ?_);· rfl)
   | ((with_reducible refine zaN ?_ (.tmp 20) rfl (w.heap.size+1) 2 rfl AY.out HJ.out ?_);· rfl)
   | ((with_reducible refine zad ?_ (zi9 (.tmp 19) (.tmp 21) rfl rfl rfl HI.out HJ.out _ H3.out) ?_);· rfl)
   | (go_at_call 97;refine (zx8 _ _ _ _ _ _ _ _ _ _ _ _ _ HX.out HY.out g1 g2 hn).mono ?_;rintro e w1 ⟨rfl,hb1⟩;have W1:=hide (zaa W0.out hb1 (Nat.le_refl _));clear hb1))
  go_ret
  exact ⟨by simp,by first | exact W1.out | exact W0.out⟩
end
section
open Go.RowKit
theorem zsp (bs:List UInt8) {a:Int} {k:Nat} (hk:1≤k∧k≤4) (h:0≤a∧a<256^k):zkb a k=0∧zeH bs a k=bs++be k a.toNat:=by
 have h1:zdm (k:Int)=true:=decide_eq_true (by omega)
 have h2:numB a k=true:=decide_eq_true h
 unfold zkb zeH
 rw [h1,h2]
 exact ⟨rfl,rfl⟩
theorem zhp {w:World} {g j n m cap c lo hi:Nat} {A:Option Addr} {bs:List UInt8} {t:TypeId} {p q r:List Value} (ty:TypeId) (h:Blk w g t (p++(q++r)).toArray) (hp:p.length=j) (hq:q.length=n) (hn:0<n) (hm:n≤m) (hr:At w lo hi A n bs) :
  ∃ w',(Builtin.copy_ #[22,22] ty #[.slice (some ⟨g,j,none⟩) m cap,.slice A n c]).run Tryz.prog w = .ok (goInt n) w'∧Blk w' g t (p++(bvs bs++r)).toArray∧w.grownBy w' (some g):=by
 obtain ⟨ad,rfl,hc⟩:=hr.cells hn
 have hl:(bvs bs).length=n:=by rw [za1,hr.len]
 have hsz:(Tryz.prog.info? 5).map (·.size)=some 1:=by kernel_rfl
 have hrun:=run_copy_cells (P:=Tryz.prog) w 22 22 ty 5 g j m cap ad n c (bvs bs) Tryz.underlying22 hsz (by rw [hl];exact (Nat.min_eq_left hm).symm) hc
  (fun i hi=>by rw [h.cell,List.getElem?_toArray,List.getElem?_append_right (by omega),List.getElem?_append_left (by omega),Option.isSome_iff_exists];exact ⟨_,List.getElem?_eq_getElem (by omega)⟩) (fun i hi=>h.frozen _) (zbI bs)
 rw [hl] at hrun
 subst hp
 exact ⟨_,hrun,zbD _ q p w (by rw [hl];exact hq) h,zai _ _ _ _ (zac w _)⟩
theorem zwd {w:World} {g j:Nat} {r:List Value} (h:Blk w g 5 (bvs (List.replicate j 255)++r).toArray):At w g (g+1) (some ⟨g,0,none⟩) j (List.replicate j 255) :=
 ⟨by simp,fun _=>⟨g,0,rfl,Nat.le_refl _,by omega,fun i u hu=>by
  rw [Nat.zero_add,h.cell,List.getElem?_toArray,List.getElem?_append_left (by rw [za1];exact (List.getElem?_eq_some_iff.1 hu).1)]
  unfold bvs
  rw [List.getElem?_map,hu]
  rfl⟩⟩
theorem zsP (w:World):Calls Tryz.prog 63 #[.int .u64 1,.int .u64 16] w fun e w'=>e = .returned (.tuple #[.int .u64 0,.int .u64 16])∧w=w':=by
 have H:Hid (Calls Tryz.prog 106 #[.int .u64 1,.int .u64 16] w fun e w'=>e = .returned (.tuple #[.int .u64 0,.int .u64 16])∧w=w'):=hide (by
  go_enter Tryz.func106,Tryz.ntmps106
  go_wp2
  go_ret2
  exact ⟨rfl,rfl⟩)
 go_enter Tryz.func63,Tryz.ntmps63
 go_wp2_with (go_at_call 106;refine H.out.mono ?_;rintro e w1 ⟨rfl,rfl⟩)
 go_ret2
 exact ⟨rfl,rfl⟩
theorem zli {o:Oper} {a:Act} {w w':World} {v u v':Value} (d s:Operand) (ho:o.op = .call { callee:=.builtin .copy,args:=#[d,s],argTypes:=#[22,22] }) (hd:a.eval d=v) (hs:a.eval s=u)
  (hr:(Builtin.copy_ #[22,22] o.type #[v,u]).run Tryz.prog w = .ok v' w'):(execOp a.eval o).run Tryz.prog w = .ok (.value v') w':=by
 unfold execOp
 simp only [ho,resolve,invoke,builtin,Sem.run_bind,Sem.run_pure,Result.andThen_ok,List.map_toArray,List.map_cons,List.map_nil,hd,hs,hr]
theorem zhX {w:World} {g:Nat} {cs:Array Value} (j:Nat) (hle:16≤cs.size) (h:Blk w g 5 (bvs (List.replicate j 255)++cs.toList.drop j).toArray) (hj:0<j:=by decide) (hj8:j≤8:=by decide) :
  ∃ w',(Builtin.copy_ #[22,22] 3 #[.slice (some ⟨g,j,none⟩) (16-j) (16-j),.slice (some ⟨g,0,none⟩) j 16]).run Tryz.prog w.drew = .ok (goInt j) w'∧Blk w' g 5 (bvs (List.replicate (j+j) 255)++cs.toList.drop (j+j)).toArray∧w.drew.grownBy w' (some g):=by
 have hB:Blk w.drew g 5 (bvs (List.replicate j 255)++((cs.toList.drop j).take j++(cs.toList.drop j).drop j)).toArray:=by rw [List.take_append_drop];exact h
 obtain ⟨w',h1,h2,h3⟩:=zhp (j:=j) (m:=16-j) (cap:=16-j) (c:=16) 3 hB (by rw [za1,List.length_replicate]) (n:=j) (by rw [List.length_take,List.length_drop,Array.length_toList];omega) hj (by omega) (zwd (h:Blk w.drew g 5 _))
 refine ⟨w',h1,?_,h3⟩
 rw [List.drop_drop,← List.append_assoc,← zdx,List.replicate_append_replicate] at h2
 exact h2
set_option maxRecDepth 20000 in
set_option maxHeartbeats 2000000 in
theorem zp7 (w:World) (lo hi:Nat) (A:Option Addr) (c:Nat) (h:At w lo hi A 1 [255]) (hh:hi≤w.heap.size) :
  Calls Tryz.prog 36 #[.slice A 1 c,.int .i64 16] w fun e w'=>∃ g,e = .returned (.slice (some ⟨g,0,none⟩) 16 16)∧At w' w.heap.size w'.heap.size (some ⟨g,0,none⟩) 16 mkH∧Below w.heap.size w w':=by
 have H:=hide h
 clear h
 obtain ⟨cs,hm,hle,_⟩:=Lib.run_makeNoZero (P:=Tryz.prog) w #[3] 22 5 Tryz.underlying22 16 (by omega)
 have hcall:(callFunc 64 #[.int .i64 16]).run Tryz.prog w = .ok (.value (.slice (some ⟨w.heap.size,0,none⟩) 16 cs.size)) ((w.alloc (.cells cs 5)).drewN 2):=by
  have hm':(Extern.BytealgMakeNoZero.makeNoZero #[3] #[22] #[.int .i64 16]).run Tryz.prog w=_:=hm
  rw [run_callFunc_extern (P:=Tryz.prog) (fn:=Tryz.f64) (e:=Extern.BytealgMakeNoZero.makeNoZero #[3] #[22]) (by kernel_rfl) (by kernel_rfl) (by kernel_rfl) (by kernel_rfl) (by kernel_rfl),hm']
  rfl
 clear hm
 have i1:(16:Int)≤(cs.size:Int):=by omega
 have W0:Hid (Below w.heap.size w ((w.alloc (.cells cs 5)).drewN 2)):=hide (zbU ((Below.refl _ _).alloc (Nat.le_refl _) _) 2)
 have B0:Hid (Blk ((w.alloc (.cells cs 5)).drewN 2) w.heap.size 5 cs):=hide (Blk.drewN (Blk.new w _ _) 2)
 have H0:=hide (H.out.below (W0.out.mono hh))
 go_enter Tryz.func36,Tryz.ntmps36
 go_wp2_with (go_at_call 63;refine (zsP _).mono ?_;rintro e w1 ⟨rfl,rfl⟩)
 obtain ⟨w1,hr1,hb1,hg1⟩:=zhp (j:=0) (p:=[]) (q:=cs.toList.take 1) (r:=cs.toList.drop 1) (m:=16) (cap:=16) (c:=c) 3 (by rw [List.nil_append,List.take_append_drop];exact B0.out) rfl (by rw [List.length_take,Array.length_toList];omega) (by decide) (by decide) H0.out
 rw [hr1]
 have HB1:Hid (Blk w1 w.heap.size 5 (bvs (List.replicate 1 255)++cs.toList.drop 1).toArray):=hide hb1
 have W1:=hide (W0.out.grown hg1 W0.out.size (fun k hk=>by injection hk with hk;omega))
 clear hr1 hb1 hg1 hcall B0 H0 W0
 go_wp2_with fail
 go_loopw [10] (fun i wr=>∃ j:Nat,(j=1∨j=2∨j=4∨j=8∨j=16)∧i = .int .i64 j∧Blk wr w.heap.size 5 (bvs (List.replicate j 255)++cs.toList.drop j).toArray∧Below w.heap.size w wr) (fun i _=>16-(intOf i).toNat)
 case atStart=>exact ⟨1,.inl rfl,rfl,HB1.out,W1.out⟩
 case round =>
  obtain ⟨j,hj,rfl,hb,hbl⟩:=hrel
  have HB:=hide hb
  have W2:=hide hbl
  clear hb hbl HB1 W1
  rcases (show (j=1∨j=2∨j=4∨j=8)∨j=16 by omega) with hj | rfl
  ·rcases hj with rfl | rfl | rfl | rfl
   all_goals
    clear hj
    go_wp2_with fail
    first | rw [show (min 1 16:Int)=1 from rfl] | rw [show (min 2 16:Int)=2 from rfl] | rw [show (min 4 16:Int)=4 from rfl] | rw [show (min 8 16:Int)=8 from rfl]
    refine wp_region_held_drew (S:=fun _=>True) (by kernel_rfl) trivial (fun hHeld=>?_)
    repeat refine rgA (F:=fun _=>True) (fun _ h=>h) ?_
    obtain ⟨w2,hr2,hb2,hg2⟩:∃ w2,_∧_∧_:=by first | exact zhX 1 hle HB.out | exact zhX 2 hle HB.out | exact zhX 4 hle HB.out | exact zhX 8 hle HB.out
    refine zaE (i:=7) rfl (by kernel_rfl) (by rfl) (zli (.tmp 70) (.tmp 73) rfl rfl rfl hr2) trivial (fun hHeld=>?_)
    have W3:Hid (Below w.heap.size w w2):=hide ((zam W2.out).grown hg2 W2.out.size (fun k hk=>by injection hk with hk;omega))
    have HB2:=hide hb2
    clear hr2 hb2 hg2
    refine rgN ?_
    repeat refine rgA (F:=fun _=>True) (fun _ h=>h) ?_
    refine wpAnyH_done (by kernel_rfl) ?_ _
    simp only [show IntKind.i64.wrap 2=2 from rfl,show IntKind.i64.wrap 4=4 from rfl,show IntKind.i64.wrap 8=8 from rfl,show IntKind.i64.wrap 16=16 from rfl]
    go_roundw
    case rel=>(repeat apply Exists.intro);first | exact ⟨⟨2,by decide,rfl,HB2.out,W3.out⟩,rfl⟩ | exact ⟨⟨4,by decide,rfl,HB2.out,W3.out⟩,rfl⟩ | exact ⟨⟨8,by decide,rfl,HB2.out,W3.out⟩,rfl⟩ | exact ⟨⟨16,by decide,rfl,HB2.out,W3.out⟩,rfl⟩
    case measure=>simp [intOf]
  ·have HAT:=hide ((zwd HB.out).more (lo':=w.heap.size) (hi':=wr.heap.size) (Nat.le_refl _) HB.out.lt)
   go_wp2
   go_ret
   exact ⟨_,rfl,HAT.out,W2.out⟩
theorem zpg (w:World):Calls Tryz.prog 20 #[] w fun e w'=>∃ g,e = .returned (.slice (some ⟨g,0,none⟩) 16 16)∧At w' w.heap.size w'.heap.size (some ⟨g,0,none⟩) 16 mkH∧Below w.heap.size w w':=by
 have AT:=hide (zkq w 255 5 255 rfl)
 have W0:=hide ((Below.refl w.heap.size w).alloc (Nat.le_refl _) (.cells #[.int .u8 255] 5))
 go_enter Tryz.func20,Tryz.ntmps20
 go_wp2_with fail
 refine (zp7 _ _ _ _ 1 AT.out (by simp)).mono ?_
 rintro e w1 ⟨g,rfl,hat,hb1⟩
 have B1:=hide (zaa W0.out hb1 (by simp))
 have H1:=hide (hat.more (lo':=w.heap.size) (by simp) (Nat.le_refl _))
 clear hat hb1
 go_wp2
 go_ret
 exact ⟨g,rfl,H1.out,B1.out⟩
theorem zyu (w:World) (t:TypeId) (bs:List UInt8) {cs:Array Value} (h:(bvs bs).toArray=cs):At (w.alloc (.cells cs t)) w.heap.size (w.heap.size+1) (some ⟨w.heap.size,0,none⟩) bs.length bs:=by
 subst h
 have hB:=Blk.new w t (bvs bs).toArray
 exact ⟨rfl,fun _=>⟨_,0,rfl,Nat.le_refl _,by omega,fun j u hu=>by rw [Nat.zero_add,hB.cell];simp [bvs,hu]⟩⟩
end
end Go.Proofs.YtjindligkhdddaaGreatDoor
