/-
  Which opens and notes are right, and which are the same: rightFamilies, rightOpen, rightNote, sameOpen, sameNote of package message, in whatever memory. No condition beyond sizes that fit memory.
  How messages are written: mark, head, familyBytes, counted, capabilities, openBytes of package message, in whatever memory. No condition beyond sizes that fit memory.
-/
import Derived.Lib.MakeNoZero
import Derived.Test.YthgainmcnjldaaaGreatDoorKLAW
import Derived.Test.YthgainmcnjldaaaGreatDoorKLAX
set_option linter.unusedVariables false
set_option linter.unusedSimpArgs false
namespace Go.Proofs.YthgainmcnjldaaaGreatDoor
section
set_option maxRecDepth 20000
set_option maxHeartbeats 2000000
open Go.RowKit
theorem zhT {P:Program} {o:Oper} {a:Act} (w:World) (x y:Operand) (t e:TypeId) (sz:Nat) (ho:o.op = .slice t x none (some y) none) (ht:P.underlying t=some (.slice e)) (hs:∀ w,(sizeOf e).run P w = .ok sz w)
  {b q n c k:Nat} (hx:a.eval x = .slice (some ⟨b,q,none⟩) n c) (hy:a.eval y = .int .i64 (k:Int)) (hk:k≤c) :
  (execOp a.eval o).run P w = .ok (.value (.slice (some ⟨b,q,none⟩) k c)) w:=by
 have he:P.elem t=e:=by unfold Program.elem;rw [ht]
 have ht':P.underlying t=some (.slice (P.elem t)):=by rw [he];exact ht
 have hr:(Instr.sliceAt t (.slice (some ⟨b,q,none⟩) n c) none (some (.int .i64 (k:Int))) none).run P w = .ok (.slice (some ⟨b,q,none⟩) k c) w:=by
  rw [run_sliceAt_slice w t _ _ _ _ ht',run_slice_h w t _ n c ht' .i64 (k:Int) (by omega) (by omega),he,hs,Result.andThen_ok]
  unfold sliced
  simp [zbR]
 unfold execOp
 simp only [ho,hx,hy,Option.map_some,Option.map_none,Sem.run_bind,hr,Result.andThen_ok,Sem.run_pure]
theorem AtG.headF {w:World} {lo hi n k:Nat} {A:Option Addr} {l:List (Int × Int)} (h:AtG famL w lo hi A n l) (hk:k≤n):AtG famL w lo hi A k (l.take k) :=
 ⟨by rw [List.length_take,h.1];omega,fun h0=>by
  obtain ⟨b,o,e,h1,h2,hc⟩:=h.2 (by omega)
  refine ⟨b,o,e,h1,h2,fun j u hu=>hc j u ?_⟩
  have hs:=zeb (enc:=famL) (l.take k) (l.drop k)
  rw [List.take_append_drop] at hs
  rw [hs,List.getElem?_append_left (List.getElem?_eq_some_iff.1 hu).1]
  exact hu⟩
theorem zlW {l:List (Int × Int)} {k:Nat} {f:Int × Int} (h:zce (l.take k)=true) (hf:l[k]?=some f) (h1:kF f=true) (h2:f ∉ l.take k):zce (l.take (k+1))=true:=by
 unfold zce at h ⊢
 rw [Bool.and_eq_true,decide_eq_true_eq,List.all_eq_true] at h ⊢
 rw [List.take_add_one,hf]
 refine ⟨fun x hx=>?_,?_⟩
 ·rcases List.mem_append.1 hx with hx | hx
  ·exact h.1 x hx
  ·rw [show x=f by simpa using hx];exact h1
 ·rw [List.nodup_append]
  exact ⟨h.2,by simp,fun a ha b hb e=>by rw [show b=f by simpa using hb] at e;subst e;exact h2 ha⟩
theorem zkE {l:List (Int × Int)} {k:Nat} {f:Int × Int} (hf:l[k]?=some f) (h:kF f=false∨f∈l.take k):zce l=false:=by
 cases hq:zce l with
 | false=>rfl
 | true =>
  exfalso
  unfold zce at hq
  rw [Bool.and_eq_true,decide_eq_true_eq,List.all_eq_true] at hq
  rcases h with h | h
  ·have:=hq.1 f (List.mem_of_getElem? hf)
   rw [h] at this;cases this
  ·have e:=List.take_append_drop k l
   rw [← e,List.nodup_append] at hq
   refine hq.2.2.2 f h f ?_ rfl
   rw [List.mem_iff_getElem?]
   exact ⟨0,by rw [List.getElem?_drop,Nat.add_zero];exact hf⟩
theorem ziX (w:World) (lo hi:Nat) (A:Option Addr) (n c:Nat) (l:List (Int × Int)) (h:AtG famL w lo hi A n l) (hh:hi≤w.heap.size) (hn:n≤100000000000000) (hc:n≤c) :
  Calls Tryz.prog 61 #[.slice A n c] w fun e w'=>e = .returned (.bool (zce l))∧Below w.heap.size w w':=by
 have H:=hide h
 have HL:=hide h.len
 have HC:=hide hc
 clear h hc
 go_enter Tryz.func61,Tryz.ntmps61
 go_wp2_with fail
 go_loopw [7] (fun i wr=>∃ k:Nat,k≤n∧i = .int .i64 k∧zce (l.take k)=true∧Below w.heap.size w wr) (fun i _=>n-(intOf i).toNat)
 case atStart=>exact ⟨0,Nat.zero_le _,rfl,rfl,Below.refl _ _⟩
 case round =>
  obtain ⟨k,hk,rfl,hok,hwr⟩:=hrel
  have HA:=hide hok
  have WB:=hide hwr
  clear hok hwr
  by_cases hlt:k<n
  ·have XA:=hide (H.out.below (WB.out.mono hh))
   obtain ⟨b,o,x,rfl,_,_,hx,hat⟩:=XA.out.at_ (sz:=2) (fun y _=>zbS y) hlt
   have HX:=hide hx
   have HAT:=hide hat
   have NEW:=hide (Blk.new wr 51 #[.int .i64 0,.int .i64 0])
   have hkl:((k:Nat):Int)<(n:Int):=by omega
   clear hx hat XA
   go_wp2_with (first
    | (with_reducible refine zab rfl (zax (.tmp 10) rfl b (o+k*2) rfl HAT.out) ?_)
    | (refine zcE rfl (.tmp 4) (.tmp 11) rfl wr.heap.size rfl x rfl NEW.out rfl ?_;intro w2 hb2 hg2;have K2:=hide hb2;have W2:Hid (Below wr.heap.size wr w2):=hide (((Below.refl _ _).alloc (Nat.le_refl _) _).grown hg2 (by simp) (by simp));clear hb2 hg2;refine Hid.out ?_))
   refine hide ?_
   have B2:=hide (zaa WB.out W2.out (Nat.le_refl _))
   generalize wr.heap.size=g at *
   clear NEW
   obtain ⟨r,hr⟩:∃ r,kF x=r:=⟨_,rfl⟩
   obtain ⟨q,hq⟩:∃ q,decide (x∈l.take k)=q:=⟨_,rfl⟩
   have HR:=hide hr
   have HQ:=hide hq
   clear hr hq
   go_wp2_with fail
   refine wp_region_held_drew (S:=fun z=>Blk z g 51 (famC x)) (by kernel_rfl) K2.out.drew (fun hHeld=>?_)
   refine rgV 0 (.agg (famC x)) (fun w' hSw=>zax (.tmp 4) rfl g 0 rfl (zaj (l:=famL x) hSw)) ?_
   refine zag (i:=1) rfl (by kernel_rfl) (by rfl) (zev _ x) (fun w=>by kernel_rfl) ?_
   rintro e w3 ⟨rfl,hb3⟩
   have B3:=hide (zaa (zak B2.out) hb3 (Nat.le_refl _))
   have hHeld3:Blk w3 g 51 (famC x):=hHeld.over hb3
   rw [show zeG x.1 x.2=r from HR.out]
   clear hb3 hHeld
   refine ⟨_,rfl,hHeld3,fun hHeld=>?_⟩
   refine rgN ?_
   refine rgT 2 ?_
   refine rgT 3 ?_
   cases r
   ·have HF:=hide (zkE HX.out (.inl HR.out))
    refine rgS 4 ?_
    refine rgS 5 ?_
    refine rgS 6 ?_
    refine rgS 7 ?_
    refine rgS 8 ?_
    refine rgT 9 ?_
    refine wpAnyH_done (by kernel_rfl) ?_ _
    go_wp2_with fail
    go_ret
    exact ⟨by rw [HF.out];rfl,B3.out⟩
   ·refine rgT 4 ?_
    refine rgT 5 ?_
    refine rgV 6 (.slice (some ⟨b,o,none⟩) k c) (fun w' hSw=>zhT w' (.tmp 16) (.tmp 17) 38 51 2 rfl Tryz.underlying38 (fun w=>Tryz.sizeOf51 w) rfl rfl (Nat.le_trans hk HC.out)) ?_
    refine rgV 7 (.agg (famC x)) (fun w' hSw=>zax (.tmp 4) rfl g 0 rfl (zaj (l:=famL x) hSw)) ?_
    refine zag (i:=8) rfl (by kernel_rfl) (by rfl) (zfC w3 lo hi _ k c (l.take k) x ((H.out.headF hk).below (B3.out.mono hh)) (Nat.le_trans hh B3.out.size) (by omega)) (fun w=>by kernel_rfl) ?_
    rintro e w4 ⟨rfl,hb4⟩
    have B4:=hide (zaa B3.out hb4 (Nat.le_refl _))
    rw [HQ.out]
    have hHeld4:Blk w4 g 51 (famC x):=hHeld.over hb4
    clear hb4 hHeld hHeld3
    refine ⟨_,rfl,hHeld4,fun hHeld=>?_⟩
    refine rgN ?_
    refine rgT 9 ?_
    refine wpAnyH_done (by kernel_rfl) ?_ _
    clear hHeld hHeld4
    cases q
    ·have HNX:=hide (zlW HA.out HX.out HR.out (of_decide_eq_false HQ.out))
     go_wp2_with fail
     go_roundw
     case rel=>exact ⟨k+1,by omega,by go_num,HNX.out,B4.out⟩
     case measure=>simp [intOf];omega
    ·have HF:=hide (zkE HX.out (.inr (of_decide_eq_true HQ.out)))
     go_wp2_with fail
     go_ret
     exact ⟨by rw [HF.out];rfl,B4.out⟩
  ·obtain rfl:k=n:=by omega
   have hkl:¬ ((k:Nat):Int)<(k:Int):=by omega
   have HF:Hid (zce l=true):=hide (by
    have:=HA.out
    rw [List.take_of_length_le (by rw [HL.out];exact Nat.le_refl _)] at this
    exact this)
   go_wp2_with fail
   go_ret
   exact ⟨by rw [HF.out];rfl,WB.out⟩
structure OpP where
 sn:Int
 hd:Int
 is:Int
 ib:List UInt8
 fA:Option Addr
 fn:Nat
 fc:Nat
 fl:List (Int × Int)
 rf:Bool
def OpP.op (x:OpP):Opn:=⟨x.sn,x.hd,x.is,x.ib,x.fl,x.rf⟩
def opL (x:OpP):List Value:=.int .i64 x.sn :: .int .i64 x.hd::((.int .i64 x.is::bvs x.ib)++[.slice x.fA x.fn x.fc,.bool x.rf])
def opC (x:OpP):Array Value:=(opL x).toArray
structure OpAt (w:World) (lo hi:Nat) (x:OpP):Prop where
 row:AtG famL w lo hi x.fA x.fn x.fl
 c:x.fn≤x.fc
 ib:x.ib.length=16
structure NoP where
 c:Int
 s:Int
 dA:Option Addr
 dn:Nat
 dc:Nat
 dl:List UInt8
def noL (x:NoP):List Value:=[.int .i64 x.c,.int .i64 x.s,.slice x.dA x.dn x.dc]
def noC (x:NoP):Array Value:=(noL x).toArray
structure NoAt (w:World) (lo hi:Nat) (x:NoP):Prop where
 row:At w lo hi x.dA x.dn x.dl
 c:x.dn≤x.dc
section
variable {w w':World} {lo hi lo' hi':Nat} {x:OpP} {y:NoP}
theorem OpAt.keep (h:OpAt w lo hi x) (hk:∀ q:Addr,lo≤q.block→q.block<hi→w'.cell? q=w.cell? q):OpAt w' lo hi x:=⟨h.row.keep hk,h.c,h.ib⟩
theorem OpAt.below (h:OpAt w lo hi x) (hb:Below hi w w'):OpAt w' lo hi x:=⟨h.row.below hb,h.c,h.ib⟩
theorem OpAt.more (h:OpAt w lo hi x) (hl:lo'≤lo) (hh:hi≤hi'):OpAt w lo' hi' x:=⟨h.row.more hl hh,h.c,h.ib⟩
theorem NoAt.keep (h:NoAt w lo hi y) (hk:∀ q:Addr,lo≤q.block→q.block<hi→w'.cell? q=w.cell? q):NoAt w' lo hi y:=⟨h.row.keep hk,h.c⟩
theorem NoAt.below (h:NoAt w lo hi y) (hb:Below hi w w'):NoAt w' lo hi y:=⟨h.row.below hb,h.c⟩
theorem NoAt.more (h:NoAt w lo hi y) (hl:lo'≤lo) (hh:hi≤hi'):NoAt w lo' hi' y:=⟨h.row.more hl hh,h.c⟩
end
theorem zfZ {x:OpP} (h:x.ib.length=16):(opL x).length=21:=by simp [opL,bvs,h]
theorem zer {x:OpP} (h:x.ib.length=16):(opC x).size=21:=by unfold opC;rw [List.size_toArray,zfZ h]
theorem ze2 (x:OpP):∀ u∈opL x,u.oneCell'=true:=fun u hu=>by
 simp only [opL,List.mem_cons,List.mem_append,List.not_mem_nil,or_false] at hu
 rcases hu with rfl | rfl | (rfl | hu) | rfl | rfl
 all_goals first | rfl | exact zbA _ u hu
theorem zlE (x:OpP):(opC x).all (·.oneCell')=true:=by
 rw [Array.all_eq_true_iff_forall_mem]
 intro u hu
 exact ze2 x u (by unfold opC at hu;simpa using hu)
theorem zmE {x:OpP} (h:x.ib.length=16) (j:Nat):(opL x)[19+j]?=[Value.slice x.fA x.fn x.fc,.bool x.rf][j]?:=by
 have e:19+j=(17+j)+2:=by omega
 rw [e]
 simp only [opL,List.getElem?_cons_succ]
 rw [List.getElem?_append_right (by simp [bvs,h])]
 simp [bvs,h]
def zc6 (z:World) (g i:Nat) (x:OpP):Prop :=
 z.cell? ⟨g,i,none⟩=some (.int .i64 x.sn)∧z.cell? ⟨g,i+1,none⟩=some (.int .i64 x.hd)∧z.cell? ⟨g,i+2,none⟩=some (.int .i64 x.is)∧z.cell? ⟨g,i+19,none⟩=some (.slice x.fA x.fn x.fc)∧z.cell? ⟨g,i+20,none⟩=some (.bool x.rf)∧True
theorem zdB {z:World} {g i:Nat} {x:OpP} (h:z.rangeAt g i (opL x)) (hb:x.ib.length=16):zc6 z g i x :=
 ⟨h 0 _ rfl,h 1 _ rfl,h 2 _ rfl,h 19 _ (zmE hb 0),h 20 _ (zmE hb 1),trivial⟩
theorem zhg {z:World} {g i:Nat} {x:OpP} (h:z.rangeAt g i (opL x)):z.rangeAt g (i+2) (.int .i64 x.is::bvs x.ib):=fun j u hu=>by
 have h1:=h (2+j) u (by
  have e:2+j=j+2:=by omega
  rw [e]
  simp only [opL,List.getElem?_cons_succ]
  rw [List.getElem?_append_left (List.getElem?_eq_some_iff.1 hu).1]
  exact hu)
 rwa [← Nat.add_assoc] at h1
set_option maxHeartbeats 4000000 in
theorem zfm (w:World) (lo hi:Nat) (x:OpP) (h:OpAt w lo hi x) (hh:hi≤w.heap.size) (hn:x.fn≤100000000000000) :
  Calls Tryz.prog 43 #[.agg (opC x)] w fun e w'=>e = .returned (.bool (zbz x.op))∧Below w.heap.size w w':=by
 have HIB:=hide h.ib
 have HB:=hide (Blk.new w 40 (opC x))
 have W0:=hide ((Below.refl w.heap.size w).alloc (Nat.le_refl _) (.cells (opC x) 40))
 have H0:=hide h.row
 have HC:=hide h.c
 have K:∀ z,Blk z w.heap.size 40 (opC x)→zc6 z w.heap.size 0 x:=fun z hz=>zdB (zaj (l:=opL x) hz) HIB.out
 have KA:∀ z,Blk z w.heap.size 40 (opC x)→z.rangeAt w.heap.size 2 (.int .i64 x.is::bvs x.ib):=fun z hz=>zhg (zaj (l:=opL x) hz)
 have hh0:hi≤(w.alloc (.cells (opC x) 40)).heap.size:=Nat.le_trans hh W0.out.size
 clear h
 unfold zc6 at K
 simp only [Nat.zero_add] at K
 obtain ⟨r1,h1⟩:∃ r,decide (1≤x.sn∧x.sn≤4294967295)=r:=⟨_,rfl⟩
 obtain ⟨q2,h2⟩:∃ r,(x.hd==0)=r:=⟨_,rfl⟩
 obtain ⟨r3,h3⟩:∃ r,decide (3≤x.hd∧x.hd≤65535)=r:=⟨_,rfl⟩
 obtain ⟨r4,h4⟩:∃ r,zau x.is x.ib=r:=⟨_,rfl⟩
 obtain ⟨q5,h5⟩:∃ r,(x.is==4)=r:=⟨_,rfl⟩
 obtain ⟨q6,h6⟩:∃ r,(!decide (x.is=4∧x.ib=zas))=r:=⟨_,rfl⟩
 obtain ⟨r7,h7⟩:∃ r,zce x.fl=r:=⟨_,rfl⟩
 have HRES:Hid (zbz x.op=(r1&&((q2||r3)&&((r4&&(q5&&q6))&&r7)))):=hide (by
  subst h1 h2 h3 h4 h5 h6 h7
  unfold zbz idOk
  rw [zpV]
  rfl)
 have H1:=hide h1
 have H3:=hide h3
 have H4:=hide h4
 have H6:=hide h6
 have H7:=hide h7
 clear h1 h3 h4 h6 h7
 go_enter Tryz.func43,Tryz.ntmps43
 go_wp2_with fail
 generalize w.alloc (.cells (opC x) 40)=w0 at *
 refine wp_region_held_drew (S:=fun z=>Blk z w.heap.size 40 (opC x)) (by kernel_rfl) HB.out.drew (fun hHeld=>?_)
 have B0:=hide (zak W0.out)
 clear W0 HB
 repeat refine rgA K ?_
 refine rgE (zbU _ x.sn 1 4294967295) ?_
 rw [H1.out]
 cases r1
 ·(repeat (first | refine rgA K ?_ | refine rgZ ?_));refine wpAnyH_done (by kernel_rfl) ?_ _;go_wp2;go_ret;exact ⟨by rw [HRES.out];rfl,B0.out⟩
 rcases (show (q2||r3)=false∨(q2||r3)=true by cases q2 <;> cases r3 <;> simp) with hq | hq
 ·obtain ⟨rfl,rfl⟩:q2=false∧r3=false:=by simpa using hq
  clear hq
  repeat refine rgA K ?_
  refine rgE (zbU _ x.hd 3 65535) ?_
  rw [H3.out]
  (repeat (first | refine rgA K ?_ | refine rgZ ?_));refine wpAnyH_done (by kernel_rfl) ?_ _;go_wp2;go_ret;exact ⟨by rw [HRES.out];rfl,B0.out⟩
 obtain rfl | ⟨rfl,rfl⟩:q2=true∨(q2=false∧r3=true):=by cases q2 <;> simp_all
 all_goals
  clear hq
  repeat (first | refine rgA K ?_ | refine rgZ ?_)
  try (refine rgE (zbU _ x.hd 3 65535) ?_;rw [H3.out])
  repeat (first | refine rgA K ?_ | refine rgZ ?_)
  refine rgV 15 (.agg (zam x.is x.ib)) (fun w' hSw=>zaV (.tmp 17) rfl w.heap.size 2 rfl (KA _ hSw) HIB.out) ?_
  refine rgB (zbM _ x.is x.ib HIB.out) ?_
  intro w1 hHeld hb1
  have B1:=hide (zaa B0.out hb1 (Nat.le_refl _))
  rw [H4.out]
  clear hb1
  cases r4
  ·(repeat (first | refine rgA K ?_ | refine rgZ ?_));refine wpAnyH_done (by kernel_rfl) ?_ _;go_wp2;go_ret;exact ⟨by rw [HRES.out];rfl,B1.out⟩
  repeat refine rgA K ?_
  cases q5
  ·(repeat (first | refine rgA K ?_ | refine rgZ ?_));refine wpAnyH_done (by kernel_rfl) ?_ _;go_wp2;go_ret;exact ⟨by rw [HRES.out];rfl,B1.out⟩
  repeat refine rgA K ?_
  refine rgV 26 (.agg (zam x.is x.ib)) (fun w' hSw=>zaV (.tmp 28) rfl w.heap.size 2 rfl (KA _ hSw) HIB.out) ?_
  refine rgB (zim _) ?_
  intro w2 hHeld hb2
  have B2:=hide (zaa B1.out hb2 (Nat.le_refl _))
  clear hb2
  refine rgV 28 (.bool q6) (fun w' hSw=>zlX (.tmp 29) (.tmp 30) rfl rfl rfl HIB.out rfl q6 H6.out) ?_
  repeat refine rgA K ?_
  cases q6
  ·(repeat (first | refine rgA K ?_ | refine rgZ ?_));refine wpAnyH_done (by kernel_rfl) ?_ _;go_wp2;go_ret;exact ⟨by rw [HRES.out];rfl,B2.out⟩
  repeat refine rgA K ?_
  refine rgB (ziX _ lo hi x.fA x.fn x.fc x.fl (H0.out.below (B2.out.mono hh)) (Nat.le_trans hh B2.out.size) hn HC.out) ?_
  intro w3 hHeld hb3
  have B3:=hide (zaa B2.out hb3 (Nat.le_refl _))
  rw [H7.out]
  clear hb3
  (repeat (first | refine rgA K ?_ | refine rgZ ?_));refine wpAnyH_done (by kernel_rfl) ?_ _;go_wp2;go_ret;exact ⟨by rw [HRES.out];rfl,B3.out⟩
def zdz (c s:Int) (d:List UInt8):Bool:=decide (0≤c∧c≤255)&&(decide (0≤s∧s≤255)&&decide (d.length≤4075))
def zt3 (z:World) (g i:Nat) (x:NoP):Prop :=
 z.cell? ⟨g,i,none⟩=some (.int .i64 x.c)∧z.cell? ⟨g,i+1,none⟩=some (.int .i64 x.s)∧z.cell? ⟨g,i+2,none⟩=some (.slice x.dA x.dn x.dc)
theorem zcs {z:World} {g i:Nat} {x:NoP} (h:z.rangeAt g i (noL x)):zt3 z g i x:=⟨h 0 _ rfl,h 1 _ rfl,h 2 _ rfl⟩
theorem ziW (w:World) (lo hi:Nat) (x:NoP) (h:NoAt w lo hi x) (hh:hi≤w.heap.size) :
  Calls Tryz.prog 45 #[.agg (noC x)] w fun e w'=>e = .returned (.bool (zdz x.c x.s x.dl))∧Below w.heap.size w w':=by
 obtain ⟨c0,c1,c2⟩:=zcs (zaj (l:=noL x) (Blk.new w 26 (noC x)))
 simp only [Nat.zero_add] at c0 c1 c2
 have W0:=hide ((Below.refl w.heap.size w).alloc (Nat.le_refl _) (.cells (noC x) 26))
 obtain ⟨r1,h1⟩:∃ r,decide (0≤x.c∧x.c≤255)=r:=⟨_,rfl⟩
 obtain ⟨r2,h2⟩:∃ r,decide (0≤x.s∧x.s≤255)=r:=⟨_,rfl⟩
 have H1:=hide h1
 have H2:=hide h2
 have HR:Hid (zdz x.c x.s x.dl=(r1&&(r2&&decide (x.dn≤4075)))):=hide (by subst h1 h2;unfold zdz;rw [h.row.len])
 clear h h1 h2
 go_enter Tryz.func45,Tryz.ntmps45
 go_wp2_with fail
 refine (zbU _ x.c 0 255).mono ?_
 rw [H1.out]
 rintro e w1 ⟨rfl,rfl⟩
 cases r1
 ·go_wp2
  go_ret
  exact ⟨by rw [HR.out];rfl,W0.out⟩
 go_wp2_with fail
 refine (zbU _ x.s 0 255).mono ?_
 rw [H2.out]
 rintro e w1 ⟨rfl,rfl⟩
 cases r2
 ·go_wp2
  go_ret
  exact ⟨by rw [HR.out];rfl,W0.out⟩
 by_cases h5:((x.dn:Nat):Int)≤4075
 all_goals
  have HD:Hid (zdz x.c x.s x.dl=decide (((x.dn:Nat):Int)≤4075)):=hide (by rw [HR.out];simp only [Bool.true_and];exact decide_eq_decide.2 ⟨fun h=>by omega,fun h=>by omega⟩)
  go_wp2
  go_ret
  exact ⟨by rw [HD.out];simp [h5],W0.out⟩
structure Two (w z:World) (t:TypeId) (L M:List Value):Prop where
 x:z.rangeAt w.heap.size 0 L
 y:z.rangeAt (w.heap.size+1) 0 M
 bl:Below w.heap.size w z
section
variable {w z q:World} {t:TypeId} {L M:List Value}
theorem Two.start (w:World) (t:TypeId) (L M:List Value) {X Y:Array Value} (hX:L.toArray=X) (hY:M.toArray=Y):Two w ((w.alloc (.cells X t)).alloc (.cells Y t)) t L M:=by
 subst hX hY
 have h1:=Blk.new (w.alloc (.cells L.toArray t)) t M.toArray
 rw [show (w.alloc (.cells L.toArray t)).heap.size=w.heap.size+1 by simp] at h1
 exact ⟨zaj ((Blk.new w t L.toArray).alloc _),zaj h1,((Below.refl _ _).alloc (Nat.le_refl _) _).alloc (by simp) _⟩
theorem Two.on (h:Two w z t L M) (hb:Below z.heap.size z q):Two w q t L M :=
 ⟨fun j u hu=>by have h1:=h.x j u hu;rw [hb.cell (World.block_lt_of_cell? _ _ h1)];exact h1,fun j u hu=>by have h1:=h.y j u hu;rw [hb.cell (World.block_lt_of_cell? _ _ h1)];exact h1,zaa h.bl hb (Nat.le_refl _)⟩
end
def zg7 (x y:NoP):Bool:=(x.c==y.c)&&((x.s==y.s)&&decide (x.dl=y.dl))
theorem zjW (w:World) (lo hi lo' hi':Nat) (x y:NoP) (h:NoAt w lo hi x) (h':NoAt w lo' hi' y) (hh:hi≤w.heap.size) (hh':hi'≤w.heap.size) :
  Calls Tryz.prog 33 #[.agg (noC x),.agg (noC y)] w fun e w'=>e = .returned (.bool (zg7 x y))∧Below w.heap.size w w':=by
 have S0:=Two.start w 26 (noL x) (noL y) (X:=noC x) (Y:=noC y) rfl rfl
 obtain ⟨c0,c1,c2⟩:=zcs S0.x
 obtain ⟨d0,d1,d2⟩:=zcs S0.y
 simp only [Nat.zero_add] at c0 c1 c2 d0 d1 d2
 have W0:=hide S0.bl
 have HX:=hide (h.row.below (S0.bl.mono hh))
 have HY:=hide (h'.row.below (S0.bl.mono hh'))
 clear S0 h h'
 unfold zg7
 obtain ⟨r1,h1⟩:∃ r,(x.c==y.c)=r:=⟨_,rfl⟩
 obtain ⟨r2,h2⟩:∃ r,(x.s==y.s)=r:=⟨_,rfl⟩
 rw [h1,h2]
 cases r1 <;> cases r2
 all_goals
  go_enter Tryz.func33,Tryz.ntmps33
  go_wp2_with (go_at_call 18;refine (zdh _ _ _ _ _ _ _ _ _ _ _ _ _ HX.out HY.out).mono ?_;rintro e w1 ⟨rfl,rfl⟩)
  go_ret
  exact ⟨by simp,W0.out⟩
end
section
set_option maxRecDepth 20000
set_option maxHeartbeats 1000000
open Go.RowKit
theorem zhe (bs:List UInt8) {a:Int} {k:Nat} (hk:1≤k∧k≤4) (h:0≤a∧a<256^k):zfr a k=0∧zcY bs a k=bs++be k a.toNat:=by
 have h1:zdp (k:Int)=true:=decide_eq_true (by omega)
 have h2:numB a k=true:=decide_eq_true h
 unfold zfr zcY
 rw [h1,h2]
 exact ⟨rfl,rfl⟩
theorem zgc {w:World} {g j n m cap c lo hi:Nat} {A:Option Addr} {bs:List UInt8} {t:TypeId} {p q r:List Value} (ty:TypeId) (h:Blk w g t (p++(q++r)).toArray) (hp:p.length=j) (hq:q.length=n) (hn:0<n) (hm:n≤m) (hr:At w lo hi A n bs) :
  ∃ w',(Builtin.copy_ #[22,22] ty #[.slice (some ⟨g,j,none⟩) m cap,.slice A n c]).run Tryz.prog w = .ok (goInt n) w'∧Blk w' g t (p++(bvs bs++r)).toArray∧w.grownBy w' (some g):=by
 obtain ⟨ad,rfl,hc⟩:=hr.cells hn
 have hl:(bvs bs).length=n:=by rw [zaX,hr.len]
 have hsz:(Tryz.prog.info? 5).map (·.size)=some 1:=by kernel_rfl
 have hrun:=run_copy_cells (P:=Tryz.prog) w 22 22 ty 5 g j m cap ad n c (bvs bs) Tryz.underlying22 hsz (by rw [hl];exact (Nat.min_eq_left hm).symm) hc
  (fun i hi=>by rw [h.cell,List.getElem?_toArray,List.getElem?_append_right (by omega),List.getElem?_append_left (by omega),Option.isSome_iff_exists];exact ⟨_,List.getElem?_eq_getElem (by omega)⟩) (fun i hi=>h.frozen _) (zbA bs)
 rw [hl] at hrun
 subst hp
 exact ⟨_,hrun,zcq _ q p w (by rw [hl];exact hq) h,zal _ _ _ _ (zae w _)⟩
theorem zsu {w:World} {g j:Nat} {r:List Value} (h:Blk w g 5 (bvs (List.replicate j 255)++r).toArray):At w g (g+1) (some ⟨g,0,none⟩) j (List.replicate j 255) :=
 ⟨by simp,fun _=>⟨g,0,rfl,Nat.le_refl _,by omega,fun i u hu=>by
  rw [Nat.zero_add,h.cell,List.getElem?_toArray,List.getElem?_append_left (by rw [zaX];exact (List.getElem?_eq_some_iff.1 hu).1)]
  unfold bvs
  rw [List.getElem?_map,hu]
  rfl⟩⟩
theorem zpu (w:World):Calls Tryz.prog 57 #[.int .u64 1,.int .u64 16] w fun e w'=>e = .returned (.tuple #[.int .u64 0,.int .u64 16])∧w=w':=by
 have H:Hid (Calls Tryz.prog 92 #[.int .u64 1,.int .u64 16] w fun e w'=>e = .returned (.tuple #[.int .u64 0,.int .u64 16])∧w=w'):=hide (by
  go_enter Tryz.func92,Tryz.ntmps92
  go_wp2
  go_ret2
  exact ⟨rfl,rfl⟩)
 go_enter Tryz.func57,Tryz.ntmps57
 go_wp2_with (go_at_call 92;refine H.out.mono ?_;rintro e w1 ⟨rfl,rfl⟩)
 go_ret2
 exact ⟨rfl,rfl⟩
theorem zjq {o:Oper} {a:Act} {w w':World} {v u v':Value} (d s:Operand) (ho:o.op = .call { callee:=.builtin .copy,args:=#[d,s],argTypes:=#[22,22] }) (hd:a.eval d=v) (hs:a.eval s=u)
  (hr:(Builtin.copy_ #[22,22] o.type #[v,u]).run Tryz.prog w = .ok v' w'):(execOp a.eval o).run Tryz.prog w = .ok (.value v') w':=by
 unfold execOp
 simp only [ho,resolve,invoke,builtin,Sem.run_bind,Sem.run_pure,Result.andThen_ok,List.map_toArray,List.map_cons,List.map_nil,hd,hs,hr]
theorem zgJ {w:World} {g:Nat} {cs:Array Value} (j:Nat) (hle:16≤cs.size) (h:Blk w g 5 (bvs (List.replicate j 255)++cs.toList.drop j).toArray) (hj:0<j:=by decide) (hj8:j≤8:=by decide) :
  ∃ w',(Builtin.copy_ #[22,22] 3 #[.slice (some ⟨g,j,none⟩) (16-j) (16-j),.slice (some ⟨g,0,none⟩) j 16]).run Tryz.prog w.drew = .ok (goInt j) w'∧Blk w' g 5 (bvs (List.replicate (j+j) 255)++cs.toList.drop (j+j)).toArray∧w.drew.grownBy w' (some g):=by
 have hB:Blk w.drew g 5 (bvs (List.replicate j 255)++((cs.toList.drop j).take j++(cs.toList.drop j).drop j)).toArray:=by rw [List.take_append_drop];exact h
 obtain ⟨w',h1,h2,h3⟩:=zgc (j:=j) (m:=16-j) (cap:=16-j) (c:=16) 3 hB (by rw [zaX,List.length_replicate]) (n:=j) (by rw [List.length_take,List.length_drop,Array.length_toList];omega) hj (by omega) (zsu (h:Blk w.drew g 5 _))
 refine ⟨w',h1,?_,h3⟩
 rw [List.drop_drop,← List.append_assoc,← zew,List.replicate_append_replicate] at h2
 exact h2
set_option maxHeartbeats 2000000 in
theorem znq (w:World) (lo hi:Nat) (A:Option Addr) (c:Nat) (h:At w lo hi A 1 [255]) (hh:hi≤w.heap.size) :
  Calls Tryz.prog 36 #[.slice A 1 c,.int .i64 16] w fun e w'=>∃ g,e = .returned (.slice (some ⟨g,0,none⟩) 16 16)∧At w' w.heap.size w'.heap.size (some ⟨g,0,none⟩) 16 mkH∧Below w.heap.size w w':=by
 have H:=hide h
 clear h
 obtain ⟨cs,hm,hle,_⟩:=Lib.run_makeNoZero (P:=Tryz.prog) w #[3] 22 5 Tryz.underlying22 16 (by omega)
 have hcall:(callFunc 58 #[.int .i64 16]).run Tryz.prog w = .ok (.value (.slice (some ⟨w.heap.size,0,none⟩) 16 cs.size)) ((w.alloc (.cells cs 5)).drewN 2):=by
  have hm':(Extern.BytealgMakeNoZero.makeNoZero #[3] #[22] #[.int .i64 16]).run Tryz.prog w=_:=hm
  rw [run_callFunc_extern (P:=Tryz.prog) (fn:=Tryz.f58) (e:=Extern.BytealgMakeNoZero.makeNoZero #[3] #[22]) (by kernel_rfl) (by kernel_rfl) (by kernel_rfl) (by kernel_rfl) (by kernel_rfl),hm']
  rfl
 clear hm
 have i1:(16:Int)≤(cs.size:Int):=by omega
 have W0:Hid (Below w.heap.size w ((w.alloc (.cells cs 5)).drewN 2)):=hide (zbj ((Below.refl _ _).alloc (Nat.le_refl _) _) 2)
 have B0:Hid (Blk ((w.alloc (.cells cs 5)).drewN 2) w.heap.size 5 cs):=hide (Blk.drewN (Blk.new w _ _) 2)
 have H0:=hide (H.out.below (W0.out.mono hh))
 go_enter Tryz.func36,Tryz.ntmps36
 go_wp2_with (go_at_call 57;refine (zpu _).mono ?_;rintro e w1 ⟨rfl,rfl⟩)
 obtain ⟨w1,hr1,hb1,hg1⟩:=zgc (j:=0) (p:=[]) (q:=cs.toList.take 1) (r:=cs.toList.drop 1) (m:=16) (cap:=16) (c:=c) 3 (by rw [List.nil_append,List.take_append_drop];exact B0.out) rfl (by rw [List.length_take,Array.length_toList];omega) (by decide) (by decide) H0.out
 rw [hr1]
 have HB1:Hid (Blk w1 w.heap.size 5 (bvs (List.replicate 1 255)++cs.toList.drop 1).toArray):=hide hb1
 have W1:=hide (W0.out.grown hg1 W0.out.size (fun k hk=>by injection hk with hk;omega))
 clear hr1 hb1 hg1 hcall B0 H0 W0
 go_wp2_with fail
 go_loopw [10] (fun i wr=>∃ j:Nat,(j=1∨j=2∨j=4∨j=8∨j=16)∧i = .int .i64 j∧Blk wr w.heap.size 5 (bvs (List.replicate j 255)++cs.toList.drop j).toArray∧Below w.heap.size w wr) (fun i _=>16-(intOf i).toNat)
 case atStart=>exact ⟨1,.inl rfl,rfl,HB1.out,W1.out⟩
 case round =>
  obtain ⟨j,hj,rfl,hb,hbl⟩:=hrel
  have HB:=hide hb
  have W2:=hide hbl
  clear hb hbl HB1 W1
  rcases (show (j=1∨j=2∨j=4∨j=8)∨j=16 by omega) with hj | rfl
  ·rcases hj with rfl | rfl | rfl | rfl
   all_goals
    clear hj
    go_wp2_with fail
    first | rw [show (min 1 16:Int)=1 from rfl] | rw [show (min 2 16:Int)=2 from rfl] | rw [show (min 4 16:Int)=4 from rfl] | rw [show (min 8 16:Int)=8 from rfl]
    refine wp_region_held_drew (S:=fun _=>True) (by kernel_rfl) trivial (fun hHeld=>?_)
    repeat refine rgA (F:=fun _=>True) (fun _ h=>h) ?_
    obtain ⟨w2,hr2,hb2,hg2⟩:∃ w2,_∧_∧_:=by first | exact zgJ 1 hle HB.out | exact zgJ 2 hle HB.out | exact zgJ 4 hle HB.out | exact zgJ 8 hle HB.out
    refine zaZ (i:=7) rfl (by kernel_rfl) (by rfl) (zjq (.tmp 70) (.tmp 73) rfl rfl rfl hr2) trivial (fun hHeld=>?_)
    have W3:Hid (Below w.heap.size w w2):=hide ((zak W2.out).grown hg2 W2.out.size (fun k hk=>by injection hk with hk;omega))
    have HB2:=hide hb2
    clear hr2 hb2 hg2
    refine rgN ?_
    repeat refine rgA (F:=fun _=>True) (fun _ h=>h) ?_
    refine wpAnyH_done (by kernel_rfl) ?_ _
    simp only [show IntKind.i64.wrap 2=2 from rfl,show IntKind.i64.wrap 4=4 from rfl,show IntKind.i64.wrap 8=8 from rfl,show IntKind.i64.wrap 16=16 from rfl]
    go_roundw
    case rel=>(repeat apply Exists.intro);first | exact ⟨⟨2,by decide,rfl,HB2.out,W3.out⟩,rfl⟩ | exact ⟨⟨4,by decide,rfl,HB2.out,W3.out⟩,rfl⟩ | exact ⟨⟨8,by decide,rfl,HB2.out,W3.out⟩,rfl⟩ | exact ⟨⟨16,by decide,rfl,HB2.out,W3.out⟩,rfl⟩
    case measure=>simp [intOf]
  ·have HAT:=hide ((zsu HB.out).more (lo':=w.heap.size) (hi':=wr.heap.size) (Nat.le_refl _) HB.out.lt)
   go_wp2
   go_ret
   exact ⟨_,rfl,HAT.out,W2.out⟩
theorem zmN (w:World):Calls Tryz.prog 20 #[] w fun e w'=>∃ g,e = .returned (.slice (some ⟨g,0,none⟩) 16 16)∧At w' w.heap.size w'.heap.size (some ⟨g,0,none⟩) 16 mkH∧Below w.heap.size w w':=by
 have AT:=hide (zgs w 255 5 255 rfl)
 have W0:=hide ((Below.refl w.heap.size w).alloc (Nat.le_refl _) (.cells #[.int .u8 255] 5))
 go_enter Tryz.func20,Tryz.ntmps20
 go_wp2_with fail
 refine (znq _ _ _ _ 1 AT.out (by simp)).mono ?_
 rintro e w1 ⟨g,rfl,hat,hb1⟩
 have B1:=hide (zaa W0.out hb1 (by simp))
 have H1:=hide (hat.more (lo':=w.heap.size) (by simp) (Nat.le_refl _))
 clear hat hb1
 go_wp2
 go_ret
 exact ⟨g,rfl,H1.out,B1.out⟩
theorem zr9 (k:UInt8) {n:Nat} (h:n<256):bvs [k,UInt8.ofNat n]=[.int .u8 (k.toNat:Int),.int .u8 (n:Int)]:=by
 have e:(UInt8.ofNat n).toNat=n:=by simp;omega
 simp [bvs,bv,e]
theorem zdJ (w:World) (lo hi:Nat) (k:UInt8) (A:Option Addr) (n c:Nat) (bs:List UInt8) (h:At w lo hi A n bs) (hh:hi≤w.heap.size) (hn:n<256) :
  Calls Tryz.prog 69 #[.int .u8 (k.toNat:Int),.slice A n c] w fun e w'=>∃ v,e = .returned v∧w'.ownsRow w.heap.size 5 1 v (n+2) (bvs (cntM k bs))∧Below w.heap.size w w':=by
 obtain ⟨i0,hi0,hz0,hz1,hz2⟩:=info_parts za4
 have hnI:(n:Int)<256:=by omega
 have H:=hide h
 have HL:=hide h.len
 have OWN:Hid (∀ w:World,(w.alloc (.cells #[.int .u8 (k.toNat:Int),.int .u8 (n:Int)] 5)).ownsRow w.heap.size 5 1 (.slice (some ⟨w.heap.size,0,none⟩) 2 2) 2 (bvs [k,UInt8.ofNat n])):=hide (fun w =>
  zbo (Blk.new w 5 _) (Nat.le_refl _) (Nat.le_refl _) (by decide) rfl (by rw [zr9 k hn];rfl))
 clear h
 go_enter Tryz.func69,Tryz.ntmps69
 go_wp2_with (at_builtin;refine zad _ rfl _ _ 22 rfl w.heap.size 5 i0 Tryz.underlying22 hi0 hz0 hz1 hz2 (.slice (some ⟨w.heap.size,0,none⟩) 2 2) 2 [k,UInt8.ofNat n] rfl (OWN.out w) lo hi A n c bs rfl (H.out.alloc hh _) (by omega) (by simp) ?_;intro v1 w1 hown1 hg1 hat1;have HO:=hide hown1;have HG:=hide hg1;clear hown1 hg1 hat1)
 go_ret
 exact ⟨_,rfl,by have:=HO.out;rw [Nat.add_comm] at this;rw [show cntM k bs=[k,UInt8.ofNat n]++bs by rw [← HL.out];rfl];exact this,((Below.refl _ _).alloc (Nat.le_refl _) _).grown HG.out (by simp) (by simp [Value.ownBlock])⟩
theorem zqH (w:World) (t:TypeId) (bs:List UInt8) {cs:Array Value} (h:(bvs bs).toArray=cs):At (w.alloc (.cells cs t)) w.heap.size (w.heap.size+1) (some ⟨w.heap.size,0,none⟩) bs.length bs:=by
 subst h
 have hB:=Blk.new w t (bvs bs).toArray
 exact ⟨rfl,fun _=>⟨_,0,rfl,Nat.le_refl _,by omega,fun j u hu=>by rw [Nat.zero_add,hB.cell];simp [bvs,hu]⟩⟩
theorem zgl (w:World) (f:Int × Int) (hf:kF f=true) :
  Calls Tryz.prog 49 #[.agg (famC f)] w fun e w'=>∃ g,e = .returned (.slice (some ⟨g,0,none⟩) 4 4)∧At w' w.heap.size w'.heap.size (some ⟨g,0,none⟩) 4 (famB f)∧Below w.heap.size w w':=by
 have HB:=hide (Blk.new w 51 (famC f))
 have W0:=hide (zak ((Below.refl w.heap.size w).alloc (Nat.le_refl _) (.cells (famC f) 51)))
 obtain ⟨s,f⟩:=f
 have K:∀ z,Blk z w.heap.size 51 (famC (s,f))→z.cell? ⟨w.heap.size,0,none⟩=some (.int .i64 s)∧z.cell? ⟨w.heap.size,1,none⟩=some (.int .i64 f)∧True:=fun z h=>⟨h.cell 0,h.cell 1,trivial⟩
 obtain ⟨n,hn,hF⟩:∃ n:UInt8,numN s=(n.toNat:Int)∧(f=5∨f=128)∧famB (s,f)=[0,n,0,UInt8.ofNat f.toNat]:=by
  rcases zjd hf with h | h | h | h <;> (injection h with h1 h2;subst h1 h2)
  ·exact ⟨1,rfl,.inl rfl,rfl⟩
  ·exact ⟨1,rfl,.inr rfl,rfl⟩
  ·exact ⟨2,rfl,.inl rfl,rfl⟩
  ·exact ⟨2,rfl,.inr rfl,rfl⟩
 have HN:=hide hn
 have HF:=hide hF.2
 rcases hF.1 with rfl | rfl
 all_goals
  clear hf hF hn
  go_enter Tryz.func49,Tryz.ntmps49
  go_wp2_with fail
  refine wp_region_held_drew (S:=fun z=>Blk z w.heap.size 51 (famC (s,_))) (by kernel_rfl) HB.out.drew (fun hHeld=>?_)
  generalize (w.alloc (.cells (famC (s,_)) 51)).drew=w1 at *
  repeat refine rgA K ?_
  refine rgK 3 K ?_
  refine rgK 4 (fun z h=>(K z h).2.1) ?_
  refine rgT 5 ?_
  refine rgE (ze8 _ s) ?_
  rw [HN.out]
  refine rgM (fun hHeld=>?_)
  repeat refine rgA K ?_
  refine wpAnyH_done (by kernel_rfl) ?_ _
  go_wp2
  go_ret
  rw [HF.out]
  exact ⟨_,rfl,(zqH w1 5 [0,n,0,UInt8.ofNat (Int.toNat _)] rfl).more W0.out.size (by simp),W0.out.alloc W0.out.size _⟩
end
end Go.Proofs.YthgainmcnjldaaaGreatDoor
