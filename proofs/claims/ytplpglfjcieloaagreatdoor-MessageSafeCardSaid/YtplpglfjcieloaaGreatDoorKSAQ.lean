/-
  Which opens and notes are right, and which are the same: rightFamilies, rightOpen, rightNote, sameOpen, sameNote of package message, in whatever memory. No condition beyond sizes that fit memory.
  Which opens are the same: sameOpen of package message, in whatever memory. No condition beyond sizes that fit memory.
  How messages are written: mark, head, familyBytes, counted, capabilities, openBytes of package message, in whatever memory. No condition beyond sizes that fit memory.
-/
import Derived.Lib.MakeNoZero
import Derived.Test.YtplpglfjcieloaaGreatDoorKSAN
import Derived.Test.YtplpglfjcieloaaGreatDoorKSAP
set_option linter.unusedVariables false
set_option linter.unusedSimpArgs false
namespace Go.Proofs.YtplpglfjcieloaaGreatDoor
open Tryz
section
set_option maxRecDepth 20000
open Go.RowKit
theorem zjU {P:Program} {o:Oper} {a:Act} (w:World) (x y:Operand) (t e:TypeId) (sz:Nat) (ho:o.op = .slice t x none (some y) none) (ht:P.underlying t=some (.slice e)) (hs:∀ w,(sizeOf e).run P w = .ok sz w)
  {b q n c k:Nat} (hx:a.eval x = .slice (some ⟨b,q,none⟩) n c) (hy:a.eval y = .int .i64 (k:Int)) (hk:k≤c) :
  (execOp a.eval o).run P w = .ok (.value (.slice (some ⟨b,q,none⟩) k c)) w:=by
 have he:P.elem t=e:=by unfold Program.elem;rw [ht]
 have ht':P.underlying t=some (.slice (P.elem t)):=by rw [he];exact ht
 have hr:(Instr.sliceAt t (.slice (some ⟨b,q,none⟩) n c) none (some (.int .i64 (k:Int))) none).run P w = .ok (.slice (some ⟨b,q,none⟩) k c) w:=by
  rw [run_sliceAt_slice w t _ _ _ _ ht',run_slice_h w t _ n c ht' .i64 (k:Int) (by omega) (by omega),he,hs,Result.andThen_ok]
  unfold sliced
  simp [zc4]
 unfold execOp
 simp only [ho,hx,hy,Option.map_some,Option.map_none,Sem.run_bind,hr,Result.andThen_ok,Sem.run_pure]
theorem AtG.headF {w:World} {lo hi n k:Nat} {A:Option Addr} {l:List (Int × Int)} (h:AtG famL w lo hi A n l) (hk:k≤n):AtG famL w lo hi A k (l.take k) :=
 ⟨by rw [List.length_take,h.1];omega,fun h0=>by
  obtain ⟨b,o,e,h1,h2,hc⟩:=h.2 (by omega)
  refine ⟨b,o,e,h1,h2,fun j u hu=>hc j u ?_⟩
  have hs:=zd2 (enc:=famL) (l.take k) (l.drop k)
  rw [List.take_append_drop] at hs
  rw [hs,List.getElem?_append_left (List.getElem?_eq_some_iff.1 hu).1]
  exact hu⟩
theorem zow {l:List (Int × Int)} {k:Nat} {f:Int × Int} (h:zcB (l.take k)=true) (hf:l[k]?=some f) (h1:kF f=true) (h2:f ∉ l.take k):zcB (l.take (k+1))=true:=by
 unfold zcB at h ⊢
 rw [Bool.and_eq_true,decide_eq_true_eq,List.all_eq_true] at h ⊢
 rw [List.take_add_one,hf]
 refine ⟨fun x hx=>?_,?_⟩
 ·rcases List.mem_append.1 hx with hx | hx
  ·exact h.1 x hx
  ·rw [show x=f by simpa using hx];exact h1
 ·rw [List.nodup_append]
  exact ⟨h.2,by simp,fun a ha b hb e=>by rw [show b=f by simpa using hb] at e;subst e;exact h2 ha⟩
theorem zm9 {l:List (Int × Int)} {k:Nat} {f:Int × Int} (hf:l[k]?=some f) (h:kF f=false∨f∈l.take k):zcB l=false:=by
 cases hq:zcB l with
 | false=>rfl
 | true =>
  exfalso
  unfold zcB at hq
  rw [Bool.and_eq_true,decide_eq_true_eq,List.all_eq_true] at hq
  rcases h with h | h
  ·have:=hq.1 f (List.mem_of_getElem? hf)
   rw [h] at this;cases this
  ·have e:=List.take_append_drop k l
   rw [← e,List.nodup_append] at hq
   refine hq.2.2.2 f h f ?_ rfl
   rw [List.mem_iff_getElem?]
   exact ⟨0,by rw [List.getElem?_drop,Nat.add_zero];exact hf⟩
set_option maxHeartbeats 2000000 in
theorem zlb (w:World) (lo hi:Nat) (A:Option Addr) (n c:Nat) (l:List (Int × Int)) (h:AtG famL w lo hi A n l) (hh:hi≤w.heap.size) (hn:n≤100000000000000) (hc:n≤c) :
  Calls prog 62 #[.slice A n c] w fun e w'=>e = .returned (.bool (zcB l))∧Below w.heap.size w w':=by
 have H:=hD h
 have HL:=hD h.len
 have HC:=hD hc
 clear h hc
 go_enter func62,ntmps62
 go_wp2_with fail
 go_loopw [7] (fun i wr=>∃ k:Nat,k≤n∧i = .int .i64 k∧zcB (l.take k)=true∧Below w.heap.size w wr) (fun i _=>n-(intOf i).toNat)
 case atStart=>exact ⟨0,Nat.zero_le _,rfl,rfl,Below.refl _ _⟩
 case round =>
  obtain ⟨k,hk,rfl,hok,hwr⟩:=hrel
  have HA:=hD hok
  have WB:=hD hwr
  clear hok hwr
  by_cases hlt:k<n
  ·have XA:=hD (H.o.below (WB.o.mono hh))
   obtain ⟨b,o,x,rfl,_,_,hx,hat⟩:=XA.o.at_ (sz:=2) (fun y _=>zcY y) hlt
   have HX:=hD hx
   have HAT:=hD hat
   have NEW:=hD (Blk.new wr 42 #[.int .i64 0,.int .i64 0])
   have hkl:((k:Nat):Int)<(n:Int):=by omega
   clear hx hat XA
   go_wp2_with (first
    | (with_reducible refine zac rfl (zaw (.tmp 10) rfl b (o+k*2) rfl HAT.o) ?_)
    | (refine zbz rfl (.tmp 4) (.tmp 11) rfl wr.heap.size rfl x rfl NEW.o rfl ?_;intro w2 hb2 hg2;have K2:=hD hb2;have W2:Hid (Below wr.heap.size wr w2):=hD (((Below.refl _ _).alloc lr _).grown hg2 (by simp) (by simp));clear hb2 hg2;refine Hid.o ?_))
   refine hD ?_
   have B2:=hD (zaa WB.o W2.o lr)
   generalize wr.heap.size=g at *
   clear NEW
   obtain ⟨r,hr⟩:∃ r,kF x=r:=⟨_,rfl⟩
   obtain ⟨q,hq⟩:∃ q,decide (x∈l.take k)=q:=⟨_,rfl⟩
   have HR:=hD hr
   have HQ:=hD hq
   clear hr hq
   go_wp2_with fail
   refine wp_region_held_drew (S:=fun z=>Blk z g 42 (famC x)) (by kernel_rfl) K2.o.drew (fun hHeld=>?_)
   refine rgV 0 (.agg (famC x)) (fun w' hSw=>zaw (.tmp 4) rfl g 0 rfl (zah (l:=famL x) hSw)) ?_
   refine zal (i:=1) rfl (by kernel_rfl) (by rfl) (zfJ _ x) (fun w=>by kernel_rfl) ?_
   rintro e w3 ⟨rfl,hb3⟩
   have B3:=hD (zaa (zaj B2.o) hb3 lr)
   have hHeld3:Blk w3 g 42 (famC x):=hHeld.over hb3
   rw [show zdt x.1 x.2=r from HR.o]
   clear hb3 hHeld
   refine ⟨_,rfl,hHeld3,fun hHeld=>?_⟩
   refine rgN ?_
   refine rgT 2 ?_
   refine rgT 3 ?_
   cases r
   ·have HF:=hD (zm9 HX.o (.inl HR.o))
    refine rgS 4 ?_
    refine rgS 5 ?_
    refine rgS 6 ?_
    refine rgS 7 ?_
    refine rgS 8 ?_
    refine rgT 9 ?_
    refine wpAnyH_done (by kernel_rfl) ?_ _
    go_wp2_with fail
    go_ret
    exact ⟨by rw [HF.o];rfl,B3.o⟩
   ·refine rgT 4 ?_
    refine rgT 5 ?_
    refine rgV 6 (.slice (some ⟨b,o,none⟩) k c) (fun w' hSw=>zjU w' (.tmp 16) (.tmp 17) 27 42 2 rfl underlying27 (fun w=>sizeOf42 w) rfl rfl (Nat.le_trans hk HC.o)) ?_
    refine rgV 7 (.agg (famC x)) (fun w' hSw=>zaw (.tmp 4) rfl g 0 rfl (zah (l:=famL x) hSw)) ?_
    refine zal (i:=8) rfl (by kernel_rfl) (by rfl) (zgR w3 lo hi _ k c (l.take k) x ((H.o.headF hk).below (B3.o.mono hh)) (Nat.le_trans hh B3.o.size) (by omega)) (fun w=>by kernel_rfl) ?_
    rintro e w4 ⟨rfl,hb4⟩
    have B4:=hD (zaa B3.o hb4 lr)
    rw [HQ.o]
    have hHeld4:Blk w4 g 42 (famC x):=hHeld.over hb4
    clear hb4 hHeld hHeld3
    refine ⟨_,rfl,hHeld4,fun hHeld=>?_⟩
    refine rgN ?_
    refine rgT 9 ?_
    refine wpAnyH_done (by kernel_rfl) ?_ _
    clear hHeld hHeld4
    cases q
    ·have HNX:=hD (zow HA.o HX.o HR.o (of_decide_eq_false HQ.o))
     go_wp2_with fail
     go_roundw
     case rel=>exact ⟨k+1,by omega,by go_num,HNX.o,B4.o⟩
     case measure=>simp [intOf];omega
    ·have HF:=hD (zm9 HX.o (.inr (of_decide_eq_true HQ.o)))
     go_wp2_with fail
     go_ret
     exact ⟨by rw [HF.o];rfl,B4.o⟩
  ·obtain rfl:k=n:=by omega
   have hkl:¬ ((k:Nat):Int)<(k:Int):=by omega
   have HF:Hid (zcB l=true):=hD (by
    have:=HA.o
    rw [List.take_of_length_le (by rw [HL.o];exact lr)] at this
    exact this)
   go_wp2_with fail
   go_ret
   exact ⟨by rw [HF.o];rfl,WB.o⟩
structure OpP where
 sn:Int
 hd:Int
 is:Int
 ib:List UInt8
 fA:Option Addr
 fn:Nat
 fc:Nat
 fl:List (Int × Int)
 rf:Bool
def OpP.op (x:OpP):Opn:=⟨x.sn,x.hd,x.is,x.ib,x.fl,x.rf⟩
def opL (x:OpP):List Value:=.int .i64 x.sn :: .int .i64 x.hd::((.int .i64 x.is::bvs x.ib)++[.slice x.fA x.fn x.fc,.bool x.rf])
def opC (x:OpP):Array Value:=(opL x).toArray
structure OpAt (w:World) (lo hi:Nat) (x:OpP):Prop where
 row:AtG famL w lo hi x.fA x.fn x.fl
 c:x.fn≤x.fc
 ib:x.ib.length=16
structure NoP where
 c:Int
 s:Int
 dA:Option Addr
 dn:Nat
 dc:Nat
 dl:List UInt8
def noL (x:NoP):List Value:=[.int .i64 x.c,.int .i64 x.s,.slice x.dA x.dn x.dc]
def noC (x:NoP):Array Value:=(noL x).toArray
structure NoAt (w:World) (lo hi:Nat) (x:NoP):Prop where
 row:At w lo hi x.dA x.dn x.dl
 c:x.dn≤x.dc
section
variable {w w':World} {lo hi lo' hi':Nat} {x:OpP} {y:NoP}
theorem OpAt.keep (h:OpAt w lo hi x) (hk:∀ q:Addr,lo≤q.block→q.block<hi→w'.cell? q=w.cell? q):OpAt w' lo hi x:=⟨h.row.keep hk,h.c,h.ib⟩
theorem OpAt.below (h:OpAt w lo hi x) (hb:Below hi w w'):OpAt w' lo hi x:=⟨h.row.below hb,h.c,h.ib⟩
theorem OpAt.more (h:OpAt w lo hi x) (hl:lo'≤lo) (hh:hi≤hi'):OpAt w lo' hi' x:=⟨h.row.more hl hh,h.c,h.ib⟩
theorem NoAt.keep (h:NoAt w lo hi y) (hk:∀ q:Addr,lo≤q.block→q.block<hi→w'.cell? q=w.cell? q):NoAt w' lo hi y:=⟨h.row.keep hk,h.c⟩
theorem NoAt.below (h:NoAt w lo hi y) (hb:Below hi w w'):NoAt w' lo hi y:=⟨h.row.below hb,h.c⟩
theorem NoAt.more (h:NoAt w lo hi y) (hl:lo'≤lo) (hh:hi≤hi'):NoAt w lo' hi' y:=⟨h.row.more hl hh,h.c⟩
end
theorem zi8 {x:OpP} (h:x.ib.length=16):(opL x).length=21:=by simp [opL,bvs,h]
theorem zfE {x:OpP} (h:x.ib.length=16):(opC x).size=21:=by unfold opC;rw [List.size_toArray,zi8 h]
theorem zoa (x:OpP):∀ u∈opL x,u.oneCell'=true:=fun u hu=>by
 simp only [opL,List.mem_cons,List.mem_append,List.not_mem_nil,or_false] at hu
 rcases hu with rfl | rfl | (rfl | hu) | rfl | rfl
 all_goals first | rfl | exact zbM _ u hu
theorem zob (x:OpP):(opC x).all (·.oneCell')=true:=by
 rw [Array.all_eq_true_iff_forall_mem]
 intro u hu
 exact zoa x u (by unfold opC at hu;simpa using hu)
theorem zpr {x:OpP} (h:x.ib.length=16) (j:Nat):(opL x)[19+j]?=[Value.slice x.fA x.fn x.fc,.bool x.rf][j]?:=by
 have e:19+j=(17+j)+2:=by omega
 rw [e]
 simp only [opL,List.getElem?_cons_succ]
 rw [List.getElem?_append_right (by simp [bvs,h])]
 simp [bvs,h]
def zdS (z:World) (g i:Nat) (x:OpP):Prop :=
 z.cell? ⟨g,i,none⟩=some (.int .i64 x.sn)∧z.cell? ⟨g,i+1,none⟩=some (.int .i64 x.hd)∧z.cell? ⟨g,i+2,none⟩=some (.int .i64 x.is)∧z.cell? ⟨g,i+19,none⟩=some (.slice x.fA x.fn x.fc)∧z.cell? ⟨g,i+20,none⟩=some (.bool x.rf)∧True
theorem zfD {z:World} {g i:Nat} {x:OpP} (h:z.rangeAt g i (opL x)) (hb:x.ib.length=16):zdS z g i x :=
 ⟨h 0 _ rfl,h 1 _ rfl,h 2 _ rfl,h 19 _ (zpr hb 0),h 20 _ (zpr hb 1),trivial⟩
theorem zi7 {z:World} {g i:Nat} {x:OpP} (h:z.rangeAt g i (opL x)):z.rangeAt g (i+2) (.int .i64 x.is::bvs x.ib):=fun j u hu=>by
 have h1:=h (2+j) u (by
  have e:2+j=j+2:=by omega
  rw [e]
  simp only [opL,List.getElem?_cons_succ]
  rw [List.getElem?_append_left (List.getElem?_eq_some_iff.1 hu).1]
  exact hu)
 rwa [← Nat.add_assoc] at h1
set_option maxHeartbeats 4000000 in
theorem zla (w:World) (lo hi:Nat) (x:OpP) (h:OpAt w lo hi x) (hh:hi≤w.heap.size) (hn:x.fn≤100000000000000) :
  Calls prog 23 #[.agg (opC x)] w fun e w'=>e = .returned (.bool (zb1 x.op))∧Below w.heap.size w w':=by
 have HIB:=hD h.ib
 have HB:=hD (Blk.new w 29 (opC x))
 have W0:=hD ((Below.refl w.heap.size w).alloc lr (.cells (opC x) 29))
 have H0:=hD h.row
 have HC:=hD h.c
 have K:∀ z,Blk z w.heap.size 29 (opC x)→zdS z w.heap.size 0 x:=fun z hz=>zfD (zah (l:=opL x) hz) HIB.o
 have KA:∀ z,Blk z w.heap.size 29 (opC x)→z.rangeAt w.heap.size 2 (.int .i64 x.is::bvs x.ib):=fun z hz=>zi7 (zah (l:=opL x) hz)
 have hh0:hi≤(w.alloc (.cells (opC x) 29)).heap.size:=Nat.le_trans hh W0.o.size
 clear h
 unfold zdS at K
 simp only [Nat.zero_add] at K
 obtain ⟨r1,h1⟩:∃ r,decide (1≤x.sn∧x.sn≤4294967295)=r:=⟨_,rfl⟩
 obtain ⟨q2,h2⟩:∃ r,(x.hd==0)=r:=⟨_,rfl⟩
 obtain ⟨r3,h3⟩:∃ r,decide (3≤x.hd∧x.hd≤65535)=r:=⟨_,rfl⟩
 obtain ⟨r4,h4⟩:∃ r,zay x.is x.ib=r:=⟨_,rfl⟩
 obtain ⟨q5,h5⟩:∃ r,(x.is==4)=r:=⟨_,rfl⟩
 obtain ⟨q6,h6⟩:∃ r,(!decide (x.is=4∧x.ib=zas))=r:=⟨_,rfl⟩
 obtain ⟨r7,h7⟩:∃ r,zcB x.fl=r:=⟨_,rfl⟩
 have HRES:Hid (zb1 x.op=(r1&&((q2||r3)&&((r4&&(q5&&q6))&&r7)))):=hD (by
  subst h1 h2 h3 h4 h5 h6 h7
  unfold zb1 idOk
  rw [zts]
  rfl)
 have H1:=hD h1
 have H3:=hD h3
 have H4:=hD h4
 have H6:=hD h6
 have H7:=hD h7
 clear h1 h3 h4 h6 h7
 go_enter func23,ntmps23
 go_wp2_with fail
 generalize w.alloc (.cells (opC x) 29)=w0 at *
 refine wp_region_held_drew (S:=fun z=>Blk z w.heap.size 29 (opC x)) (by kernel_rfl) HB.o.drew (fun hHeld=>?_)
 have B0:=hD (zaj W0.o)
 clear W0 HB
 repeat refine rgA K ?_
 refine rgE (zdM _ x.sn 1 4294967295) ?_
 rw [H1.o]
 cases r1
 ·(repeat (first | refine rgA K ?_ | refine rgZ ?_));refine wpAnyH_done (by kernel_rfl) ?_ _;go_wp2;go_ret;exact ⟨by rw [HRES.o];rfl,B0.o⟩
 rcases (show (q2||r3)=false∨(q2||r3)=true by cases q2 <;> cases r3 <;> simp) with hq | hq
 ·obtain ⟨rfl,rfl⟩:q2=false∧r3=false:=by simpa using hq
  clear hq
  repeat refine rgA K ?_
  refine rgE (zdM _ x.hd 3 65535) ?_
  rw [H3.o]
  (repeat (first | refine rgA K ?_ | refine rgZ ?_));refine wpAnyH_done (by kernel_rfl) ?_ _;go_wp2;go_ret;exact ⟨by rw [HRES.o];rfl,B0.o⟩
 obtain rfl | ⟨rfl,rfl⟩:q2=true∨(q2=false∧r3=true):=by cases q2 <;> simp_all
 all_goals
  clear hq
  repeat (first | refine rgA K ?_ | refine rgZ ?_)
  try (refine rgE (zdM _ x.hd 3 65535) ?_;rw [H3.o])
  repeat (first | refine rgA K ?_ | refine rgZ ?_)
  refine rgV 15 (.agg (zaq x.is x.ib)) (fun w' hSw=>za8 (.tmp 17) rfl w.heap.size 2 rfl (KA _ hSw) HIB.o) ?_
  refine rgB (zcx _ x.is x.ib HIB.o) ?_
  intro w1 hHeld hb1
  have B1:=hD (zaa B0.o hb1 lr)
  rw [H4.o]
  clear hb1
  cases r4
  ·(repeat (first | refine rgA K ?_ | refine rgZ ?_));refine wpAnyH_done (by kernel_rfl) ?_ _;go_wp2;go_ret;exact ⟨by rw [HRES.o];rfl,B1.o⟩
  repeat refine rgA K ?_
  cases q5
  ·(repeat (first | refine rgA K ?_ | refine rgZ ?_));refine wpAnyH_done (by kernel_rfl) ?_ _;go_wp2;go_ret;exact ⟨by rw [HRES.o];rfl,B1.o⟩
  repeat refine rgA K ?_
  refine rgV 26 (.agg (zaq x.is x.ib)) (fun w' hSw=>za8 (.tmp 28) rfl w.heap.size 2 rfl (KA _ hSw) HIB.o) ?_
  refine rgB (zkA _) ?_
  intro w2 hHeld hb2
  have B2:=hD (zaa B1.o hb2 lr)
  clear hb2
  refine rgV 28 (.bool q6) (fun w' hSw=>zoy (.tmp 29) (.tmp 30) rfl rfl rfl HIB.o rfl q6 H6.o) ?_
  repeat refine rgA K ?_
  cases q6
  ·(repeat (first | refine rgA K ?_ | refine rgZ ?_));refine wpAnyH_done (by kernel_rfl) ?_ _;go_wp2;go_ret;exact ⟨by rw [HRES.o];rfl,B2.o⟩
  repeat refine rgA K ?_
  refine rgB (zlb _ lo hi x.fA x.fn x.fc x.fl (H0.o.below (B2.o.mono hh)) (Nat.le_trans hh B2.o.size) hn HC.o) ?_
  intro w3 hHeld hb3
  have B3:=hD (zaa B2.o hb3 lr)
  rw [H7.o]
  clear hb3
  (repeat (first | refine rgA K ?_ | refine rgZ ?_));refine wpAnyH_done (by kernel_rfl) ?_ _;go_wp2;go_ret;exact ⟨by rw [HRES.o];rfl,B3.o⟩
def zsv (c s:Int) (d:List UInt8):Bool:=decide (0≤c∧c≤255)&&(decide (0≤s∧s≤255)&&decide (d.length≤4075))
def zyP (z:World) (g i:Nat) (x:NoP):Prop :=
 z.cell? ⟨g,i,none⟩=some (.int .i64 x.c)∧z.cell? ⟨g,i+1,none⟩=some (.int .i64 x.s)∧z.cell? ⟨g,i+2,none⟩=some (.slice x.dA x.dn x.dc)
theorem zid {z:World} {g i:Nat} {x:NoP} (h:z.rangeAt g i (noL x)):zyP z g i x:=⟨h 0 _ rfl,h 1 _ rfl,h 2 _ rfl⟩
structure Two (w z:World) (t:TypeId) (L M:List Value):Prop where
 x:z.rangeAt w.heap.size 0 L
 y:z.rangeAt (w.heap.size+1) 0 M
 bl:Below w.heap.size w z
section
variable {w z q:World} {t:TypeId} {L M:List Value}
theorem Two.start (w:World) (t:TypeId) (L M:List Value) {X Y:Array Value} (hX:L.toArray=X) (hY:M.toArray=Y):Two w ((w.alloc (.cells X t)).alloc (.cells Y t)) t L M:=by
 subst hX hY
 have h1:=Blk.new (w.alloc (.cells L.toArray t)) t M.toArray
 rw [show (w.alloc (.cells L.toArray t)).heap.size=w.heap.size+1 by simp] at h1
 exact ⟨zah ((Blk.new w t L.toArray).alloc _),zah h1,((Below.refl _ _).alloc lr _).alloc (by simp) _⟩
theorem Two.on (h:Two w z t L M) (hb:Below z.heap.size z q):Two w q t L M :=
 ⟨fun j u hu=>by have h1:=h.x j u hu;rw [hb.cell (World.block_lt_of_cell? _ _ h1)];exact h1,fun j u hu=>by have h1:=h.y j u hu;rw [hb.cell (World.block_lt_of_cell? _ _ h1)];exact h1,zaa h.bl hb lr⟩
end
def zhA (x y:NoP):Bool:=(x.c==y.c)&&((x.s==y.s)&&decide (x.dl=y.dl))
theorem zmu (w:World) (lo hi lo' hi':Nat) (x y:NoP) (h:NoAt w lo hi x) (h':NoAt w lo' hi' y) (hh:hi≤w.heap.size) (hh':hi'≤w.heap.size) :
  Calls prog 16 #[.agg (noC x),.agg (noC y)] w fun e w'=>e = .returned (.bool (zhA x y))∧Below w.heap.size w w':=by
 have S0:=Two.start w 40 (noL x) (noL y) (X:=noC x) (Y:=noC y) rfl rfl
 obtain ⟨c0,c1,c2⟩:=zid S0.x
 obtain ⟨d0,d1,d2⟩:=zid S0.y
 simp only [Nat.zero_add] at c0 c1 c2 d0 d1 d2
 have W0:=hD S0.bl
 have HX:=hD (h.row.below (S0.bl.mono hh))
 have HY:=hD (h'.row.below (S0.bl.mono hh'))
 clear S0 h h'
 unfold zhA
 obtain ⟨r1,h1⟩:∃ r,(x.c==y.c)=r:=⟨_,rfl⟩
 obtain ⟨r2,h2⟩:∃ r,(x.s==y.s)=r:=⟨_,rfl⟩
 rw [h1,h2]
 cases r1 <;> cases r2
 all_goals
  go_enter func16,ntmps16
  go_wp2_with (go_at_call 29;refine (zb6 _ _ _ _ _ _ _ _ _ _ _ _ _ HX.o HY.o).mono ?_;rintro e w1 ⟨rfl,rfl⟩)
  go_ret
  exact ⟨by simp,W0.o⟩
end
section
open Go.RowKit
def zeh (x y:OpP):Bool:=(x.sn==y.sn)&&((x.hd==y.hd)&&(decide (x.is=y.is∧x.ib=y.ib)&&((x.rf==y.rf)&&decide (x.fl=y.fl))))
set_option maxRecDepth 20000 in
set_option maxHeartbeats 4000000 in
theorem zmt (w:World) (lo hi lo' hi':Nat) (x y:OpP) (h:OpAt w lo hi x) (h':OpAt w lo' hi' y) (hh:hi≤w.heap.size) (hh':hi'≤w.heap.size) (hn:x.fn≤100000000000000) :
  Calls prog 14 #[.agg (opC x),.agg (opC y)] w fun e w'=>e = .returned (.bool (zeh x y))∧Below w.heap.size w w':=by
 have S0:=Two.start w 29 (opL x) (opL y) (X:=opC x) (Y:=opC y) rfl rfl
 have AX:=hD (zi7 S0.x)
 have AY:=hD (zi7 S0.y)
 have KX:=zfD S0.x h.ib
 have KY:=zfD S0.y h'.ib
 unfold zdS at KX KY
 simp only [Nat.zero_add] at KX KY AX AY
 obtain ⟨c0,c1,c2,c3,c4,_⟩:=KX
 obtain ⟨d0,d1,d2,d3,d4,_⟩:=KY
 have W0:=hD S0.bl
 have HX:=hD (h.row.below (S0.bl.mono hh))
 have HY:=hD (h'.row.below (S0.bl.mono hh'))
 have HI:=hD h.ib
 have HJ:=hD h'.ib
 have g1:hi≤((w.alloc (.cells (opC x) 29)).alloc (.cells (opC y) 29)).heap.size:=Nat.le_trans hh S0.bl.size
 have g2:hi'≤((w.alloc (.cells (opC x) 29)).alloc (.cells (opC y) 29)).heap.size:=Nat.le_trans hh' S0.bl.size
 clear S0 h h'
 unfold zeh
 obtain ⟨r1,h1⟩:∃ r,(x.sn==y.sn)=r:=⟨_,rfl⟩
 obtain ⟨r2,h2⟩:∃ r,(x.hd==y.hd)=r:=⟨_,rfl⟩
 obtain ⟨r3,h3⟩:∃ r,decide (x.is=y.is∧x.ib=y.ib)=r:=⟨_,rfl⟩
 obtain ⟨r4,h4⟩:∃ r,(x.rf==y.rf)=r:=⟨_,rfl⟩
 have H3:=hD h3
 have F:Hid (((x.sn==y.sn)&&((x.hd==y.hd)&&(decide (x.is=y.is∧x.ib=y.ib)&&((x.rf==y.rf)&&decide (x.fl=y.fl)))))=(r1&&(r2&&(r3&&(r4&&decide (x.fl=y.fl)))))):=hD (by rw [h1,h2,h3,h4])
 rw [F.o]
 clear h3 F
 cases r1
 rotate_left
 cases r2
 rotate_left
 cases r3
 rotate_left
 cases r4
 all_goals
  go_enter func14,ntmps14
  go_wp2_with (first
   | ((with_reducible refine zaM ?_ (.tmp 18) rfl w.heap.size 2 rfl AX.o HI.o ?_);· rfl)
   | ((with_reducible refine zaM ?_ (.tmp 20) rfl (w.heap.size+1) 2 rfl AY.o HJ.o ?_);· rfl)
   | ((with_reducible refine zac ?_ (zjq (.tmp 19) (.tmp 21) rfl rfl rfl HI.o HJ.o _ H3.o) ?_);· rfl)
   | (go_at_call 39;refine (zyq _ _ _ _ _ _ _ _ _ _ _ _ _ HX.o HY.o g1 g2 hn).mono ?_;rintro e w1 ⟨rfl,hb1⟩;have W1:=hD (zaa W0.o hb1 lr);clear hb1))
  go_ret
  exact ⟨by simp,by first | exact W1.o | exact W0.o⟩
end
section
set_option maxRecDepth 20000
set_option maxHeartbeats 1000000
open Go.RowKit
theorem zi5 (bs:List UInt8) {a:Int} {k:Nat} (hk:1≤k∧k≤4) (h:0≤a∧a<256^k):zgD a k=0∧zdJ bs a k=bs++be k a.toNat:=by
 have h1:zdu (k:Int)=true:=decide_eq_true (by omega)
 have h2:numB a k=true:=decide_eq_true h
 unfold zgD zdJ
 rw [h1,h2]
 exact ⟨rfl,rfl⟩
theorem zhD {w:World} {g j n m cap c lo hi:Nat} {A:Option Addr} {bs:List UInt8} {t:TypeId} {p q r:List Value} (ty:TypeId) (h:Blk w g t (p++(q++r)).toArray) (hp:p.length=j) (hq:q.length=n) (hn:0<n) (hm:n≤m) (hr:At w lo hi A n bs) :
  ∃ w',(Builtin.copy_ #[22,22] ty #[.slice (some ⟨g,j,none⟩) m cap,.slice A n c]).run prog w = .ok (goInt n) w'∧Blk w' g t (p++(bvs bs++r)).toArray∧w.grownBy w' (some g):=by
 obtain ⟨ad,rfl,hc⟩:=hr.cells hn
 have hl:(bvs bs).length=n:=by rw [zaX,hr.len]
 have hsz:(prog.info? 5).map (·.size)=some 1:=by kernel_rfl
 have hrun:=run_copy_cells (P:=prog) w 22 22 ty 5 g j m cap ad n c (bvs bs) underlying22 hsz (by rw [hl];exact (Nat.min_eq_left hm).symm) hc
  (fun i hi=>by rw [h.cell,List.getElem?_toArray,List.getElem?_append_right (by omega),List.getElem?_append_left (by omega),Option.isSome_iff_exists];exact ⟨_,List.getElem?_eq_getElem (by omega)⟩) (fun i hi=>h.frozen _) (zbM bs)
 rw [hl] at hrun
 subst hp
 exact ⟨_,hrun,zbE _ q p w (by rw [hl];exact hq) h,zai _ _ _ _ (zad w _)⟩
theorem zwz {w:World} {g j:Nat} {r:List Value} (h:Blk w g 5 (bvs (List.replicate j 255)++r).toArray):At w g (g+1) (some ⟨g,0,none⟩) j (List.replicate j 255) :=
 ⟨by simp,fun _=>⟨g,0,rfl,lr,by omega,fun i u hu=>by
  rw [Nat.zero_add,h.cell,List.getElem?_toArray,List.getElem?_append_left (by rw [zaX];exact (List.getElem?_eq_some_iff.1 hu).1)]
  unfold bvs
  rw [List.getElem?_map,hu]
  rfl⟩⟩
theorem zs8 (w:World):Calls prog 110 #[.int .u64 1,.int .u64 16] w fun e w'=>e = .returned (.tuple #[.int .u64 0,.int .u64 16])∧w=w':=by
 have H:Hid (Calls prog 141 #[.int .u64 1,.int .u64 16] w fun e w'=>e = .returned (.tuple #[.int .u64 0,.int .u64 16])∧w=w'):=hD (by
  go_enter func141,ntmps141
  go_wp2
  go_ret2
  exact ⟨rfl,rfl⟩)
 go_enter func110,ntmps110
 go_wp2_with (go_at_call 141;refine H.o.mono ?_;rintro e w1 ⟨rfl,rfl⟩)
 go_ret2
 exact ⟨rfl,rfl⟩
theorem zlK {o:Oper} {a:Act} {w w':World} {v u v':Value} (d s:Operand) (ho:o.op = .call { callee:=.builtin .copy,args:=#[d,s],argTypes:=#[22,22] }) (hd:a.eval d=v) (hs:a.eval s=u)
  (hr:(Builtin.copy_ #[22,22] o.type #[v,u]).run prog w = .ok v' w'):(execOp a.eval o).run prog w = .ok (.value v') w':=by
 unfold execOp
 simp only [ho,resolve,invoke,builtin,Sem.run_bind,Sem.run_pure,Result.andThen_ok,List.map_toArray,List.map_cons,List.map_nil,hd,hs,hr]
theorem zic {w:World} {g:Nat} {cs:Array Value} (j:Nat) (hle:16≤cs.size) (h:Blk w g 5 (bvs (List.replicate j 255)++cs.toList.drop j).toArray) (hj:0<j:=by decide) (hj8:j≤8:=by decide) :
  ∃ w',(Builtin.copy_ #[22,22] 3 #[.slice (some ⟨g,j,none⟩) (16-j) (16-j),.slice (some ⟨g,0,none⟩) j 16]).run prog w.drew = .ok (goInt j) w'∧Blk w' g 5 (bvs (List.replicate (j+j) 255)++cs.toList.drop (j+j)).toArray∧w.drew.grownBy w' (some g):=by
 have hB:Blk w.drew g 5 (bvs (List.replicate j 255)++((cs.toList.drop j).take j++(cs.toList.drop j).drop j)).toArray:=by rw [List.take_append_drop];exact h
 obtain ⟨w',h1,h2,h3⟩:=zhD (j:=j) (m:=16-j) (cap:=16-j) (c:=16) 3 hB (by rw [zaX,List.length_replicate]) (n:=j) (by rw [List.length_take,List.length_drop,Array.length_toList];omega) hj (by omega) (zwz (h:Blk w.drew g 5 _))
 refine ⟨w',h1,?_,h3⟩
 rw [List.drop_drop,← List.append_assoc,← zdE,List.replicate_append_replicate] at h2
 exact h2
set_option maxHeartbeats 2000000 in
theorem zqs (w:World) (lo hi:Nat) (A:Option Addr) (c:Nat) (h:At w lo hi A 1 [255]) (hh:hi≤w.heap.size) :
  Calls prog 70 #[.slice A 1 c,.int .i64 16] w fun e w'=>∃ g,e = .returned (.slice (some ⟨g,0,none⟩) 16 16)∧At w' w.heap.size w'.heap.size (some ⟨g,0,none⟩) 16 mkH∧Below w.heap.size w w':=by
 have H:=hD h
 clear h
 obtain ⟨cs,hm,hle,_⟩:=Lib.run_makeNoZero (P:=prog) w #[3] 22 5 underlying22 16 (by omega)
 have hcall:(callFunc 111 #[.int .i64 16]).run prog w = .ok (.value (.slice (some ⟨w.heap.size,0,none⟩) 16 cs.size)) ((w.alloc (.cells cs 5)).drewN 2):=by
  have hm':(Extern.BytealgMakeNoZero.makeNoZero #[3] #[22] #[.int .i64 16]).run prog w=_:=hm
  rw [run_callFunc_extern (P:=prog) (fn:=Tryz.f111) (e:=Extern.BytealgMakeNoZero.makeNoZero #[3] #[22]) (by kernel_rfl) (by kernel_rfl) (by kernel_rfl) (by kernel_rfl) (by kernel_rfl),hm']
  rfl
 clear hm
 have i1:(16:Int)≤(cs.size:Int):=by omega
 have W0:Hid (Below w.heap.size w ((w.alloc (.cells cs 5)).drewN 2)):=hD (zbX ((Below.refl _ _).alloc lr _) 2)
 have B0:Hid (Blk ((w.alloc (.cells cs 5)).drewN 2) w.heap.size 5 cs):=hD (Blk.drewN (Blk.new w _ _) 2)
 have H0:=hD (H.o.below (W0.o.mono hh))
 go_enter func70,ntmps70
 go_wp2_with (go_at_call 110;refine (zs8 _).mono ?_;rintro e w1 ⟨rfl,rfl⟩)
 obtain ⟨w1,hr1,hb1,hg1⟩:=zhD (j:=0) (p:=[]) (q:=cs.toList.take 1) (r:=cs.toList.drop 1) (m:=16) (cap:=16) (c:=c) 3 (by rw [List.nil_append,List.take_append_drop];exact B0.o) rfl (by rw [List.length_take,Array.length_toList];omega) (by decide) (by decide) H0.o
 rw [hr1]
 have HB1:Hid (Blk w1 w.heap.size 5 (bvs (List.replicate 1 255)++cs.toList.drop 1).toArray):=hD hb1
 have W1:=hD (W0.o.grown hg1 W0.o.size (fun k hk=>by injection hk with hk;omega))
 clear hr1 hb1 hg1 hcall B0 H0 W0
 go_wp2_with fail
 go_loopw [10] (fun i wr=>∃ j:Nat,(j=1∨j=2∨j=4∨j=8∨j=16)∧i = .int .i64 j∧Blk wr w.heap.size 5 (bvs (List.replicate j 255)++cs.toList.drop j).toArray∧Below w.heap.size w wr) (fun i _=>16-(intOf i).toNat)
 case atStart=>exact ⟨1,.inl rfl,rfl,HB1.o,W1.o⟩
 case round =>
  obtain ⟨j,hj,rfl,hb,hbl⟩:=hrel
  have HB:=hD hb
  have W2:=hD hbl
  clear hb hbl HB1 W1
  rcases (show (j=1∨j=2∨j=4∨j=8)∨j=16 by omega) with hj | rfl
  ·rcases hj with rfl | rfl | rfl | rfl
   all_goals
    clear hj
    go_wp2_with fail
    first | rw [show (min 1 16:Int)=1 from rfl] | rw [show (min 2 16:Int)=2 from rfl] | rw [show (min 4 16:Int)=4 from rfl] | rw [show (min 8 16:Int)=8 from rfl]
    refine wp_region_held_drew (S:=fun _=>True) (by kernel_rfl) trivial (fun hHeld=>?_)
    repeat refine rgA (F:=fun _=>True) (fun _ h=>h) ?_
    obtain ⟨w2,hr2,hb2,hg2⟩:∃ w2,_∧_∧_:=by first | exact zic 1 hle HB.o | exact zic 2 hle HB.o | exact zic 4 hle HB.o | exact zic 8 hle HB.o
    refine zaG (i:=7) rfl (by kernel_rfl) (by rfl) (zlK (.tmp 70) (.tmp 73) rfl rfl rfl hr2) trivial (fun hHeld=>?_)
    have W3:Hid (Below w.heap.size w w2):=hD ((zaj W2.o).grown hg2 W2.o.size (fun k hk=>by injection hk with hk;omega))
    have HB2:=hD hb2
    clear hr2 hb2 hg2
    refine rgN ?_
    repeat refine rgA (F:=fun _=>True) (fun _ h=>h) ?_
    refine wpAnyH_done (by kernel_rfl) ?_ _
    simp only [show IntKind.i64.wrap 2=2 from rfl,show IntKind.i64.wrap 4=4 from rfl,show IntKind.i64.wrap 8=8 from rfl,show IntKind.i64.wrap 16=16 from rfl]
    go_roundw
    case rel=>(repeat apply Exists.intro);first | exact ⟨⟨2,by decide,rfl,HB2.o,W3.o⟩,rfl⟩ | exact ⟨⟨4,by decide,rfl,HB2.o,W3.o⟩,rfl⟩ | exact ⟨⟨8,by decide,rfl,HB2.o,W3.o⟩,rfl⟩ | exact ⟨⟨16,by decide,rfl,HB2.o,W3.o⟩,rfl⟩
    case measure=>simp [intOf]
  ·have HAT:=hD ((zwz HB.o).more (lo':=w.heap.size) (hi':=wr.heap.size) lr HB.o.lt)
   go_wp2
   go_ret
   exact ⟨_,rfl,HAT.o,W2.o⟩
theorem zpz (w:World):Calls prog 31 #[] w fun e w'=>∃ g,e = .returned (.slice (some ⟨g,0,none⟩) 16 16)∧At w' w.heap.size w'.heap.size (some ⟨g,0,none⟩) 16 mkH∧Below w.heap.size w w':=by
 have AT:=hD (zhP w 255 5 255 rfl)
 have W0:=hD ((Below.refl w.heap.size w).alloc lr (.cells #[.int .u8 255] 5))
 go_enter func31,ntmps31
 go_wp2_with fail
 refine (zqs _ _ _ _ 1 AT.o (by simp)).mono ?_
 rintro e w1 ⟨g,rfl,hat,hb1⟩
 have B1:=hD (zaa W0.o hb1 (by simp))
 have H1:=hD (hat.more (lo':=w.heap.size) (by simp) lr)
 clear hat hb1
 go_wp2
 go_ret
 exact ⟨g,rfl,H1.o,B1.o⟩
theorem zv6 (k:UInt8) {n:Nat} (h:n<256):bvs [k,UInt8.ofNat n]=[.int .u8 (k.toNat:Int),.int .u8 (n:Int)]:=by
 have e:(UInt8.ofNat n).toNat=n:=by simp;omega
 simp [bvs,bv,e]
theorem zeL (w:World) (lo hi:Nat) (k:UInt8) (A:Option Addr) (n c:Nat) (bs:List UInt8) (h:At w lo hi A n bs) (hh:hi≤w.heap.size) (hn:n<256) :
  Calls prog 104 #[.int .u8 (k.toNat:Int),.slice A n c] w fun e w'=>∃ v,e = .returned v∧w'.ownsRow w.heap.size 5 1 v (n+2) (bvs (cntM k bs))∧Below w.heap.size w w':=by
 obtain ⟨i0,hi0,hz0,hz1,hz2⟩:=info_parts zbK
 have hnI:(n:Int)<256:=by omega
 have H:=hD h
 have HL:=hD h.len
 have OWN:Hid (∀ w:World,(w.alloc (.cells #[.int .u8 (k.toNat:Int),.int .u8 (n:Int)] 5)).ownsRow w.heap.size 5 1 (.slice (some ⟨w.heap.size,0,none⟩) 2 2) 2 (bvs [k,UInt8.ofNat n])):=hD (fun w =>
  zce (Blk.new w 5 _) lr lr (by decide) rfl (by rw [zv6 k hn];rfl))
 clear h
 go_enter func104,ntmps104
 go_wp2_with (at_builtin;refine zam _ rfl _ _ 22 rfl w.heap.size 5 i0 underlying22 hi0 hz0 hz1 hz2 (.slice (some ⟨w.heap.size,0,none⟩) 2 2) 2 [k,UInt8.ofNat n] rfl (OWN.o w) lo hi A n c bs rfl (H.o.alloc hh _) (by omega) (by simp) ?_;intro v1 w1 hown1 hg1 hat1;have HO:=hD hown1;have HG:=hD hg1;clear hown1 hg1 hat1)
 go_ret
 exact ⟨_,rfl,by have:=HO.o;rw [Nat.add_comm] at this;rw [show cntM k bs=[k,UInt8.ofNat n]++bs by rw [← HL.o];rfl];exact this,((Below.refl _ _).alloc lr _).grown HG.o (by simp) (by simp [Value.ownBlock])⟩
theorem zul (w:World) (t:TypeId) (bs:List UInt8) {cs:Array Value} (h:(bvs bs).toArray=cs):At (w.alloc (.cells cs t)) w.heap.size (w.heap.size+1) (some ⟨w.heap.size,0,none⟩) bs.length bs:=by
 subst h
 have hB:=Blk.new w t (bvs bs).toArray
 exact ⟨rfl,fun _=>⟨_,0,rfl,lr,by omega,fun j u hu=>by rw [Nat.zero_add,hB.cell];simp [bvs,hu]⟩⟩
theorem zna (w:World) (f:Int × Int) (hf:kF f=true) :
  Calls prog 66 #[.agg (famC f)] w fun e w'=>∃ g,e = .returned (.slice (some ⟨g,0,none⟩) 4 4)∧At w' w.heap.size w'.heap.size (some ⟨g,0,none⟩) 4 (famB f)∧Below w.heap.size w w':=by
 have HB:=hD (Blk.new w 42 (famC f))
 have W0:=hD (zaj ((Below.refl w.heap.size w).alloc lr (.cells (famC f) 42)))
 obtain ⟨s,f⟩:=f
 have K:∀ z,Blk z w.heap.size 42 (famC (s,f))→z.cell? ⟨w.heap.size,0,none⟩=some (.int .i64 s)∧z.cell? ⟨w.heap.size,1,none⟩=some (.int .i64 f)∧True:=fun z h=>⟨h.cell 0,h.cell 1,trivial⟩
 obtain ⟨n,hn,hF⟩:∃ n:UInt8,numN s=(n.toNat:Int)∧(f=5∨f=128)∧famB (s,f)=[0,n,0,UInt8.ofNat f.toNat]:=by
  rcases zlD hf with h | h | h | h <;> (injection h with h1 h2;subst h1 h2)
  ·exact ⟨1,rfl,.inl rfl,rfl⟩
  ·exact ⟨1,rfl,.inr rfl,rfl⟩
  ·exact ⟨2,rfl,.inl rfl,rfl⟩
  ·exact ⟨2,rfl,.inr rfl,rfl⟩
 have HN:=hD hn
 have HF:=hD hF.2
 rcases hF.1 with rfl | rfl
 all_goals
  clear hf hF hn
  go_enter func66,ntmps66
  go_wp2_with fail
  refine wp_region_held_drew (S:=fun z=>Blk z w.heap.size 42 (famC (s,_))) (by kernel_rfl) HB.o.drew (fun hHeld=>?_)
  generalize (w.alloc (.cells (famC (s,_)) 42)).drew=w1 at *
  repeat refine rgA K ?_
  refine rgK 3 K ?_
  refine rgK 4 (fun z h=>(K z h).2.1) ?_
  refine rgT 5 ?_
  refine rgE (zgk _ s) ?_
  rw [HN.o]
  refine rgM (fun hHeld=>?_)
  repeat refine rgA K ?_
  refine wpAnyH_done (by kernel_rfl) ?_ _
  go_wp2
  go_ret
  rw [HF.o]
  exact ⟨_,rfl,(zul w1 5 [0,n,0,UInt8.ofNat (Int.toNat _)] rfl).more W0.o.size (by simp),W0.o.alloc W0.o.size _⟩
end
end Go.Proofs.YtplpglfjcieloaaGreatDoor
