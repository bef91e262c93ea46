/-
  A row of rows of bytes that came in, as far as it is told here: each is a row. No condition.
  Steps of a region that draws its order, the first one that is left each time; cells told by one fact of the region's condition. Nothing here speaks of the program. No condition.
-/
import Derived.Test.YtjindligkhdddaaGreatDoorSDAM
set_option linter.unusedVariables false
set_option linter.unusedSimpArgs false
namespace Go.Proofs.YtjindligkhdddaaGreatDoor
section
open Go.ChangeShapes Go.WideShapes Go.ChangeAt Go.RowKit
def Lists (w:World) (hi:Nat) (A:Option Addr) (n:Nat):Prop :=
 0<n→∃ b o,A=some ⟨b,o,none⟩∧b<hi∧∀ i,i<n→∃ x m c,w.cell? ⟨b,o+i,none⟩=some (.slice x m c)
set_option maxRecDepth 100000 in
theorem zqk {H:Type} {enc:TypeId × Value→H} {w:World} {v:Value} {d:DataW H} {p:List MemPlace} {base:Nat}
  (hv:Value.okWide Tryz.prog w .any base 23 v) (h:DataW.Trod enc Tryz.prog w 0 (fun _=>true) true 23 v d p) :
  ∃ A n c,v = .slice A n c∧Lists w w.heap.size A n∧n≤c∧c≤maxLen:=by
 obtain ⟨A,n,c,rfl⟩:=okWide_slice Tryz.underlying23 hv
 obtain ⟨fuel,hf⟩:=h
 have ce:Tryz.prog.cellsOf 22=1:=by kernel_rfl
 rcases Go.Deep.open_slice Tryz.underlying23 hf with ⟨hcs,_⟩ | ⟨a,len,cap,m,k,D,Pl,hcs,hb,hl,hm,hmm,_,hx⟩
 ·simp [Value.cells] at hcs
  obtain ⟨rfl,rfl,rfl⟩:=hcs
  exact ⟨none,0,0,rfl,(fun h=>absurd h (by omega)),by omega,by omega⟩
 ·simp [Value.cells] at hcs
  obtain ⟨rfl,rfl,rfl⟩:=hcs
  simp only [if_true] at hmm
  have each:∀ i,i<n→∃ x m c,w.cell? (a.add i)=some (.slice x m c):=by
   intro i hi
   obtain ⟨cs',h1,h2⟩:=hx i (by omega)
   rw [ce] at h1
   obtain ⟨_,hlen,hcell⟩:=World.cells?_some h1
   have hc:=hcell 0 (by decide)
   rw [Go.Deep.add_add,Nat.mul_one,Nat.add_zero] at hc
   rcases DataW.trod_slice Tryz.underlying22 h2 with ⟨h,_⟩ | ⟨a',len',cap',_,_,_,_,h,_⟩
   ·exact ⟨none,0,0,by rw [hc,h];rfl⟩
   ·exact ⟨some a',len',cap',by rw [hc,h];rfl⟩
  refine ⟨some a,n,c,rfl,fun hn=>?_,hl,hm⟩
  obtain ⟨b,o,spot⟩:=a
  obtain ⟨x0,m0,c0,h00⟩:=each 0 hn
  have hspot:spot=none:=by simpa [Addr.add] using World.cell?_spot h00
  subst hspot
  refine ⟨b,o,rfl,by have:=block_lt_of_cell h00;simpa [Addr.add] using this,fun i hi=>?_⟩
  have:=each i hi
  rw [zcy] at this
  exact this
end
section
open Go.RowKit
def zws (o:Op) (f:FuncId):Bool:=match o with
 | .call c=>(match c.callee with
  | .value (.func g)=>g==f
  | _=>false)
 | _=>false
section
variable {P:Program} {ops:Array Oper} {Q:Exit→Act→World→Prop} {md:Region.Mode} {S:World→Prop} {fuel:Nat} {listed:Array Bool} {a:Act} {w:World} {i:Nat} {o:Oper}
theorem rgA {F:World→Prop} {v:Value} {a':Act} {l':Array Bool} (K:∀ w,S w→F w) (h:wpAnyH P md ops Q S fuel l' a' w) (h0:listed.toList.findIdx? (fun b=>!b)=some i:=by rfl) (hi:ops.toList[i]?=some o:=by exact rfl) (hg:Region.wanted o (yielded ops a.tmps)=true:=by rfl)
  (hy:∀ w,S w→F w→(execOp a.eval o).run P w = .ok (.value v) w:=by (intro w' hSw kc;(try obtain ⟨_,_,_,_,_,_⟩:=kc);go_simp <;> with_reducible rfl)) (hs:Region.noSelect ops=true:=by kernel_rfl) (hf:Region.free md ops listed i=true:=by kernel_rfl) (hr:(Region.ready md ops listed).contains i=true:=by kernel_rfl)
  (hQ:∀ c a w,Q (.panic c) (a.put o.dst v) w→Q (.panic c) a w:=by exact fun _ _ _ h=>h) (hS:S w:=by assumption)
  (hl:listed.setIfInBounds i true=l':=by first | (simp only [List.setIfInBounds_toArray,List.set_cons_zero,List.set_cons_succ];exact rfl) | exact rfl) (ha:a.put o.dst v=a':=by first | (simp only [Act.put,List.setIfInBounds_toArray,List.set_cons_zero,List.set_cons_succ];exact rfl) | exact rfl):wpAnyH P md ops Q S (fuel+1) listed a w:=by
 subst hl ha;exact zc2 hi hs hf hr hQ (Or.inl ⟨hg,fun w hw=>hy w hw (K w hw)⟩) hS h
theorem rgZ {a':Act} {l':Array Bool} (h:wpAnyH P md ops Q S fuel l' a' w) (h0:listed.toList.findIdx? (fun b=>!b)=some i:=by rfl) (hi:ops.toList[i]?=some o:=by exact rfl) (hg:Region.wanted o (yielded ops a.tmps)=false:=by rfl) (hs:Region.noSelect ops=true:=by kernel_rfl) (hf:Region.free md ops listed i=true:=by kernel_rfl) (hr:(Region.ready md ops listed).contains i=true:=by kernel_rfl)
  (hQ:∀ c a w,Q (.panic c) (a.put o.dst undef) w→Q (.panic c) a w:=by exact fun _ _ _ h=>h) (hS:S w:=by assumption)
  (hl:listed.setIfInBounds i true=l':=by first | (simp only [List.setIfInBounds_toArray,List.set_cons_zero,List.set_cons_succ];exact rfl) | exact rfl) (ha:a.put o.dst undef=a':=by first | (simp only [Act.put,List.setIfInBounds_toArray,List.set_cons_zero,List.set_cons_succ];exact rfl) | exact rfl):wpAnyH P md ops Q S (fuel+1) listed a w:=by
 subst hl ha;exact zc2 hi hs hf hr hQ (Or.inr ⟨hg,rfl⟩) hS h
theorem rgB {v:Value} {f:FuncId} {args:Array Value} {a':Act} {l':Array Bool} (hc:Calls P f args w fun e w'=>e = .returned v∧Below w.heap.size w w') (h:∀ w',S w'→Below w.heap.size w w'→wpAnyH P md ops Q S fuel l' a' w')
  (h0:listed.toList.findIdx? (fun b=>!b)=some i:=by rfl) (hi:ops.toList[i]?=some o:=by exact rfl) (hf:zws o.op f=true:=by rfl) (hw:Region.wanted o (yielded ops a.tmps)=true:=by rfl) (hr:Region.ready md ops listed=[i]:=by kernel_rfl) (hrun:∀ w,(execOp a.eval o).run P w = .ok (.enter f args) w:=by (intro w;kernel_rfl))
  (hS:S w:=by assumption) (hb:∀ w w',S w→Below w.heap.size w w'→S w':=by exact fun _ _ h hb=>h.over hb)
  (hl:listed.setIfInBounds i true=l':=by first | (simp only [List.setIfInBounds_toArray,List.set_cons_zero,List.set_cons_succ];exact rfl) | exact rfl) (ha:a.put o.dst v=a':=by first | (simp only [Act.put,List.setIfInBounds_toArray,List.set_cons_zero,List.set_cons_succ];exact rfl) | exact rfl):wpAnyH P md ops Q S (fuel+1) listed a w:=by
 subst hl ha
 refine zal hi hr hw hc hrun (fun e w' hr=>?_)
 obtain ⟨rfl,hbl⟩:=hr
 exact ⟨v,rfl,hb _ _ hS hbl,fun hS'=>h _ hS' hbl⟩
theorem rgE {v:Value} {f:FuncId} {args:Array Value} {a':Act} {l':Array Bool} (hc:Calls P f args w fun e w'=>e = .returned v∧w=w') (h:wpAnyH P md ops Q S fuel l' a' w)
  (h0:listed.toList.findIdx? (fun b=>!b)=some i:=by rfl) (hi:ops.toList[i]?=some o:=by exact rfl) (hf:zws o.op f=true:=by rfl) (hw:Region.wanted o (yielded ops a.tmps)=true:=by rfl) (hr:Region.ready md ops listed=[i]:=by kernel_rfl) (hrun:∀ w,(execOp a.eval o).run P w = .ok (.enter f args) w:=by (intro w;kernel_rfl))
  (hS:S w:=by assumption)
  (hl:listed.setIfInBounds i true=l':=by first | (simp only [List.setIfInBounds_toArray,List.set_cons_zero,List.set_cons_succ];exact rfl) | exact rfl) (ha:a.put o.dst v=a':=by first | (simp only [Act.put,List.setIfInBounds_toArray,List.set_cons_zero,List.set_cons_succ];exact rfl) | exact rfl):wpAnyH P md ops Q S (fuel+1) listed a w:=by
 subst hl ha
 refine zal hi hr hw hc hrun (fun e w' hr=>?_)
 obtain ⟨rfl,rfl⟩:=hr
 exact ⟨v,rfl,hS,fun _=>h⟩
theorem rgM {v:Value} {w':World} {a':Act} {l':Array Bool} (h:S w'→wpAnyH P md ops Q S fuel l' a' w') (h0:listed.toList.findIdx? (fun b=>!b)=some i:=by rfl) (hi:ops.toList[i]?=some o:=by exact rfl) (hw:Region.wanted o (yielded ops a.tmps)=true:=by rfl)
  (hrun:(execOp a.eval o).run P w = .ok (.value v) w':=by (go_simp <;> first | with_reducible rfl | exact ⟨rfl,rfl⟩)) (hr:Region.ready md ops listed=[i]:=by kernel_rfl) (hS:S w':=by (first | assumption | (apply Blk.alloc;assumption)))
  (hl:listed.setIfInBounds i true=l':=by first | (simp only [List.setIfInBounds_toArray,List.set_cons_zero,List.set_cons_succ];exact rfl) | exact rfl) (ha:a.put o.dst v=a':=by first | (simp only [Act.put,List.setIfInBounds_toArray,List.set_cons_zero,List.set_cons_succ];exact rfl) | exact rfl):wpAnyH P md ops Q S (fuel+1) listed a w:=by
 subst hl ha
 exact zaE hi hr hw hrun hS h
theorem rgTwo {i j:Nat} {o o':Oper} {v v':Value} {w1:World} {a':Act} {l':Array Bool} (hrun:(execOp a.eval o).run P w = .ok (.value v) w) (hrun2:(execOp (a.put o'.dst v').eval o).run P w1 = .ok (.value v) w1)
  (hrun':(execOp a.eval o').run P w = .ok (.value v') w1) (hrun2':(execOp (a.put o.dst v).eval o').run P w = .ok (.value v') w1) (hS:S w) (hS1:S w1) (h:wpAnyH P md ops Q S fuel l' a' w1)
  (hi:ops.toList[i]?=some o) (hj:ops.toList[j]?=some o') (hr:Region.ready md ops listed=[i,j]:=by kernel_rfl) (hri:Region.ready md ops (listed.setIfInBounds i true)=[j]:=by kernel_rfl) (hrj:Region.ready md ops (listed.setIfInBounds j true)=[i]:=by kernel_rfl)
  (hw:Region.wanted o (yielded ops a.tmps)=true:=by rfl) (hw':Region.wanted o' (yielded ops a.tmps)=true:=by rfl) (hw2:Region.wanted o' (yielded ops (a.put o.dst v).tmps)=true:=by rfl) (hw2':Region.wanted o (yielded ops (a.put o'.dst v').tmps)=true:=by rfl)
  (hl:(listed.setIfInBounds i true).setIfInBounds j true=l':=by first | (simp only [List.setIfInBounds_toArray,List.set_cons_zero,List.set_cons_succ];exact rfl) | exact rfl) (hl2:(listed.setIfInBounds j true).setIfInBounds i true=l':=by first | (simp only [List.setIfInBounds_toArray,List.set_cons_zero,List.set_cons_succ];exact rfl) | exact rfl)
  (ha:(a.put o.dst v).put o'.dst v'=a':=by first | (simp only [Act.put,List.setIfInBounds_toArray,List.set_cons_zero,List.set_cons_succ];exact rfl) | exact rfl) (ha2:(a.put o'.dst v').put o.dst v=a':=by first | (simp only [Act.put,List.setIfInBounds_toArray,List.set_cons_zero,List.set_cons_succ];exact rfl) | exact rfl):wpAnyH P md ops Q S (fuel+1+1) listed a w:=by
 subst hl ha
 refine wpAnyH_ready hr (by simp) (AllReadyH.cons (zbq hi) (fun K hK=>?_) (AllReadyH.cons (zbq hj) (fun K hK=>?_) AllReadyH.nil))
 ·rw [if_pos hw]
  unfold Oper.wp
  rw [hrun]
  exact hK.out _ _ hS (fun _=>zaE hj hri hw2 hrun2' hS1 (fun _=>h))
 ·rw [if_pos hw']
  unfold Oper.wp
  rw [hrun']
  exact hK.out _ _ hS1 (fun _=>zaE hi hrj hw2' hrun2 hS1 (fun _=>by rw [hl2,ha2];exact h))
end
end
end Go.Proofs.YtjindligkhdddaaGreatDoor
