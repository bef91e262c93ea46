/-
  What take of package attr does with an attribute of a known kind, whatever its value is. The conditions: what said and value do with it.
  The values of kinds 2, 10 and 16 where what is told may not be right: segments without an AS, addresses that are none, more communities than may be. The condition: the sizes that bytes can have.
-/
import Derived.Deep.DeepCutAuto
import Derived.Test.YtplpglfjcieloaaGreatDoorKSBI
set_option linter.unusedVariables false
set_option linter.unusedSimpArgs false
namespace Go.Proofs.YtplpglfjcieloaaGreatDoor
open Tryz
section
open Go.RowKit
def ztF (f F:Int):Bool:=decide (f=F)||(decide (F=192)&&decide (f=224))
theorem ztE (w:World) (f F:Int):Calls prog 165 #[.int .i64 f,.int .i64 F] w fun e w'=>e = .returned (.bool (ztF f F))∧w=w':=by
 unfold ztF
 by_cases h1:f=F
 ·have b:(f==F)=true:=by rw [h1];simp
  rw [decide_eq_true h1]
  clear h1
  go_enter func165,ntmps165
  go_wp2
  go_ret
  exact ⟨rfl,rfl⟩
 ·have b:(f==F)=false:=beq_eq_false_iff_ne.2 h1
  rw [decide_eq_false h1]
  clear h1
  by_cases h2:F=192
  ·subst h2
   have c:bits .or .i64 192 32=224:=by kernel_rfl
   by_cases h3:f=224
   ·have a:(f==224)=true:=by rw [h3];rfl
    rw [decide_eq_true h3]
    clear h3
    go_enter func165,ntmps165
    go_wp2
    go_ret
    exact ⟨rfl,rfl⟩
   ·have a:(f==224)=false:=beq_eq_false_iff_ne.2 h3
    rw [decide_eq_false h3]
    clear h3
    go_enter func165,ntmps165
    go_wp2
    go_ret
    exact ⟨rfl,rfl⟩
  ·have d:(F==192)=false:=beq_eq_false_iff_ne.2 h2
   rw [decide_eq_false h2]
   clear h2
   go_enter func165,ntmps165
   go_wp2
   go_ret
   exact ⟨rfl,rfl⟩
def SaidG (w:World) (K:Int) (i:Item) (e:Ending) (w':World):Prop :=
 ∃ T V,e = .returned (.iface T V)∧Below w.heap.size w w'∧∀ (p:AtP) (R:Nat→Nat→Prop),(∀ a b,R a b→b≤w.heap.size)→zaV w R p→∃ p',zaV w' (fun a b=>R a b∨(a=w.heap.size∧b=w'.heap.size)) p'∧p'.ats=i.say p.ats ∧
  ∀ x,Calls prog 163 #[.agg (attC p),.int .i64 K,.iface T V] x fun e y=>e = .returned (.agg (attC p'))∧Below x.heap.size x y
def NewR (w:World) (R:Nat→Nat→Prop) (x:World) (a b:Nat):Prop:=R a b∨(w.heap.size≤a∧b≤x.heap.size)
structure TkG (w x:World) (r m vlo vhi:Nat) (R:Nat→Nat→Prop) (p:AtP) (rv:Value) (q:RawP):Prop where
 rd:Blk x r 174 (rdgC p rv m)
 bx:Blk x w.heap.size 176 (rawC q)
 v:At x vlo vhi q.A q.n q.v
 at_:zaV x R p
 bl:Below w.heap.size w x
 hv:vhi≤w.heap.size
 hr:r<w.heap.size
 hR:∀ a b,R a b→b≤w.heap.size∧r<a
section
variable {w x y:World} {r m vlo vhi:Nat} {R:Nat→Nat→Prop} {p p':AtP} {rv:Value} {q:RawP} {g:Nat}
theorem TkG.on (h:TkG w x r m vlo vhi R p rv q) (hb:Below x.heap.size x y):TkG w y r m vlo vhi R p rv q :=
 ⟨h.rd.over hb,h.bx.over hb,h.v.below (hb.mono (Nat.le_trans h.hv h.bl.size)),h.at_.below hb (fun a b hr=>Nat.le_trans (h.hR a b hr).1 h.bl.size),zaa h.bl hb lr,h.hv,h.hr,h.hR⟩
theorem TkG.drew (h:TkG w x r m vlo vhi R p rv q):TkG w x.drew r m vlo vhi R p rv q:=⟨h.rd.drew,h.bx.drew,h.v.drew,h.at_.keep (fun _ _ _ _ _ _=>rfl),zaj h.bl,h.hv,h.hr,h.hR⟩
theorem TkG.new (h:TkG w x r m vlo vhi R p rv q) (ob:Obj):TkG w (x.alloc ob) r m vlo vhi R p rv q:=h.on ((Below.refl _ _).alloc lr _)
theorem TkG.grown (h:TkG w x r m vlo vhi R p rv q) (hg:x.grownBy y (some g)) (hn:w.heap.size<g):TkG w y r m vlo vhi R p rv q :=
 ⟨h.rd.grown hg (fun e=>by injection e;have:=h.hr;omega),h.bx.grown hg (fun e=>by injection e;omega),h.v.grown hg (Nat.le_trans h.hv h.bl.size) (fun k c=>by injection c;have:=h.hv;omega),h.at_.grown hg (fun a b hr=>⟨Nat.le_trans (h.hR a b hr).1 h.bl.size,.inr (by have:=(h.hR a b hr).1;omega)⟩),h.bl.grown hg h.bl.size (fun k c=>by injection c;omega),h.hv,h.hr,h.hR⟩
theorem TkG.c0 (h:TkG w x r m vlo vhi R p rv q):x.cell? ⟨w.heap.size,0,none⟩=some (.int .i64 q.f):=h.bx.cell 0
theorem TkG.c1 (h:TkG w x r m vlo vhi R p rv q):x.cell? ⟨w.heap.size,1,none⟩=some (.int .i64 q.k):=h.bx.cell 1
theorem TkG.c2 (h:TkG w x r m vlo vhi R p rv q):x.cell? ⟨w.heap.size,2,none⟩=some (.slice q.A q.n q.c):=h.bx.cell 2
structure TkC (w x:World) (r m vlo vhi:Nat) (R:Nat→Nat→Prop) (p p':AtP) (rv:Value) (q:RawP) (g:Nat):Prop where
 tk:TkG w x r m vlo vhi R p rv q
 bk:Blk x g 35 (attC p')
 hg:w.heap.size<g
 at':zaV x (NewR w R x) p'
theorem TkC.on (h:TkC w x r m vlo vhi R p p' rv q g) (hb:Below x.heap.size x y):TkC w y r m vlo vhi R p p' rv q g :=
 ⟨h.tk.on hb,h.bk.over hb,h.hg,(h.at'.below hb (fun a b hr=>by
  rcases hr with hr | hr
  ·exact Nat.le_trans (h.tk.hR a b hr).1 h.tk.bl.size
  ·exact hr.2)).to (fun a b hr=>by
  rcases hr with hr | hr
  ·exact .inl hr
  ·exact .inr ⟨hr.1,Nat.le_trans hr.2 hb.size⟩)⟩
theorem TkC.all (h:TkC w x r m vlo vhi R p p' rv q g):zax x 0 x.heap.size p':=h.at'.at_ (fun a b hr=>⟨Nat.zero_le _,by
  rcases hr with hr | hr
  ·exact Nat.le_trans (h.tk.hR a b hr).1 h.tk.bl.size
  ·exact hr.2⟩)
theorem TkC.rn (h:TkC w x r m vlo vhi R p p' rv q g):x.rangeAt g 0 (attL p'):=zah (l:=attL p') h.bk
end
def TakeG (w:World) (r m:Nat) (R:Nat→Nat→Prop) (p:AtP) (rv:Value) (f F:Int) (b:List UInt8) (Sh:Item→Prop) (Pv:Item→List UInt8→Bool→Prop) (e:Ending) (w':World):Prop :=
 ∃ out:Int,e = .returned (.int .i64 out)∧w.grownBy w' (some r)∧((out=2∧(∃ i bv there,Sh i∧Pv i bv there∧(ztF f F=false∨zcm (i.say p.ats)=false∨there=false∨bv≠b))∧Blk w' r 174 (rdgC p rv m)∧zaV w' R p) ∨
  (out=0∧∃ i p',Sh i∧Pv i b true∧ztF f F=true∧zcm (i.say p.ats)=true∧p'.ats=i.say p.ats∧Blk w' r 174 (rdgC p' rv m)∧zaV w' (NewR w R w') p'))
set_option maxRecDepth 20000 in
set_option maxHeartbeats 6000000 in
theorem zuN {rv:Value} (w:World) (r m vlo vhi:Nat) (R:Nat→Nat→Prop) (p:AtP) (f K F:Int) (A:Option Addr) (n c:Nat) (b:List UInt8) (Sh:Item→Prop) (Pv:Item→List UInt8→Bool→Prop) (hb:Blk w r 174 (rdgC p rv m)) (hv:At w vlo vhi A n b) (a8:vhi≤w.heap.size) (Z:zaV w R p) (hR:∀ a b,R a b→b≤w.heap.size∧r<a)
  (HS:∀ x,At x vlo vhi A n b→vhi≤x.heap.size→Calls prog 164 #[.int .i64 K,.slice A n c] x (fun e y=>∃ i,Sh i∧SaidG x K i e y))
  (HV:∀ i p',Sh i→p'.ats=i.say p.ats→∃ bv there,Pv i bv there∧∀ x,zax x 0 x.heap.size p'→Calls prog 159 #[.agg (attC p'),.int .i64 K] x (zbf x bv there)) :
  Calls prog 145 #[.pointer (some ⟨r,0,none⟩),.agg (rawC ⟨f,K,A,n,c,b⟩),.int .i64 F] w (TakeG w r m R p rv f F b Sh Pv):=by
 have ST:Hid (TkG w (w.alloc (.cells (rawC ⟨f,K,A,n,c,b⟩) 176)) r m vlo vhi R p rv ⟨f,K,A,n,c,b⟩):=hD ⟨hb.alloc _,Blk.new w _ _,hv.alloc a8 _,Z.below ((Below.refl _ _).alloc lr _) (fun a b hr=>(hR a b hr).1),(Below.refl _ _).alloc lr _,a8,hb.lt,hR⟩
 have bc:=Z.ob
 have ak:=hD HS
 have ca:=hD HV
 have u:=hD hR
 clear hb hv Z HS HV hR
 go_enter func145,ntmps145
 go_wp2_with fail
 generalize hw1:w.alloc (.cells (rawC ⟨f,K,A,n,c,b⟩) 176)=w1 at *
 clear hw1
 have ck:w.heap.size<w1.heap.size:=ST.o.bx.lt
 go_cut [7] (fun v wx=>Hid (∃ g p' i,v = .pointer (some ⟨g,0,none⟩)∧Sh i∧p'.ats=i.say p.ats∧TkC w wx r m vlo vhi R p p' rv ⟨f,K,A,n,c,b⟩ g))
 case first =>
  have SD:=hD ST.o.drew
  refine wp_region_held_drew (S:=fun x=>TkG w x r m vlo vhi R p rv ⟨f,K,A,n,c,b⟩) (by kernel_rfl) SD.o (fun d=>?_)
  refine rgT 0 ?_
  refine rgT 1 ?_
  refine rgT 2 ?_
  refine rgV 3 (.agg (attC p)) ?_ ?_
  ·(intro w' O;exact zcu (.tmp 12) rfl r 0 rfl (zi3 O.rd) bc)
  refine rgT 4 ?_
  refine rgK 5 (fun w' O=>O.c1) ?_
  refine rgT 6 ?_
  refine rgK 7 (fun w' O=>O.c1) ?_
  refine rgT 8 ?_
  refine rgK 9 (fun w' O=>O.c2) ?_
  refine zeW (w1:=(w1.drew.alloc (.cells zAtt 35))) (i:=10) (j:=12) (v:=.pointer (some ⟨w1.heap.size,0,none⟩)) rfl rfl (by kernel_rfl) (by rfl) (by rfl) (ak.o w1.drew d.v (Nat.le_trans d.hv d.bl.size)) (fun w=>by kernel_rfl) ?_ (d.new _) ?_ ?_
  ·(go_simp <;> with_reducible rfl)
  ·intro d
   refine rgN ?_
   have NB:Hid (Blk (w1.drew.alloc (.cells zAtt 35)) w1.heap.size 35 zAtt):=hD (Blk.new w1.drew _ _)
   have ay:(w1.drew.alloc (.cells zAtt 35)).heap.size=w1.heap.size+1:=by simp
   refine zal (i:=10) rfl (by kernel_rfl) (by rfl) (ak.o (w1.drew.alloc (.cells zAtt 35)) d.v (Nat.le_trans d.hv d.bl.size)) (fun w=>by kernel_rfl) ?_
   rintro e s ⟨i,L,T,V,rfl,I,Q⟩
   obtain ⟨p',E,t,G⟩:=Q p R (fun a b hr=>Nat.le_trans (u.o a b hr).1 d.bl.size) d.at_
   have cd:(w1.drew.alloc (.cells zAtt 35)).heap.size≤s.heap.size:=I.size
   have cg:w.heap.size≤(w1.drew.alloc (.cells zAtt 35)).heap.size:=d.bl.size
   have S2:=hD (d.on I)
   have X:Hid (zaV s (fun a b=>R a b∨(a=(w1.drew.alloc (.cells zAtt 35)).heap.size∧b=s.heap.size)) p'):=hD E
   have N:=hD t
   have P:=hD G
   have C:=hD L
   have bh:=hD I
   have z:p'.ob.length=16:=E.ob
   clear I Q E t G L
   refine ⟨_,rfl,S2.o,fun d=>?_⟩
   refine rgN ?_
   refine zal (i:=11) rfl (by kernel_rfl) (by rfl) (P.o s) (fun w=>by kernel_rfl) ?_
   rintro e k ⟨rfl,B⟩
   have S3:=hD (d.on B)
   have H:=hD B
   clear B
   refine ⟨_,rfl,S3.o,fun d=>?_⟩
   refine rgN ?_
   have M:=hD ((NB.o.over bh.o).over H.o)
   have bo:=H.o.size
   have W:Hid (zaV k (fun a b=>R a b∨(a=(w1.drew.alloc (.cells zAtt 35)).heap.size∧b=s.heap.size)) p'):=hD (X.o.below H.o (fun a b hr=>by
    rcases hr with hr | ⟨rfl,rfl⟩
    ·have:=(u.o a b hr).1;omega
    ·omega))
   have D:=d.grown (y:=k.setCells w1.heap.size 0 (attL p')) (zai _ _ _ _ (zad _ _)) (by omega)
   refine zau (i:=13) rfl (by kernel_rfl) (by rfl) (zbC (.tmp 7) (.tmp 21) rfl w1.heap.size 0 rfl rfl z (zcL M.o)) D (fun d=>?_)
   refine rgN ?_
   have K5:=hD (zcp M.o z)
   have ax:k.heap.size≤(k.setCells w1.heap.size 0 (attL p')).heap.size:=(zai (g:=w1.heap.size) (attL p') 0 k k (zad _ _)).size
   have A5:Hid (zaV (k.setCells w1.heap.size 0 (attL p')) (NewR w R (k.setCells w1.heap.size 0 (attL p'))) p'):=hD ((W.o.grown (zai (g:=w1.heap.size) (attL p') 0 k k (zad _ _)) (fun a b hr=>by
    rcases hr with hr | ⟨rfl,rfl⟩
    ·have:=(u.o a b hr).1
     exact ⟨by omega,.inr (by omega)⟩
    ·exact ⟨by omega,by omega⟩)).to (fun a b hr=>by
    rcases hr with hr | ⟨rfl,rfl⟩
    ·exact .inl hr
    ·exact .inr ⟨by omega,by omega⟩))
   have S5:=hD D
   clear D
   refine wpAnyH_done (by kernel_rfl) ?_ _
   go_wp2
   go_meet
   exact ⟨_,p',i,rfl,C.o,N.o,S5.o,K5.o,by omega,A5.o⟩
  ·rintro e s ⟨i,L,T,V,rfl,I,Q⟩
   obtain ⟨p',E,t,G⟩:=Q p R (fun a b hr=>Nat.le_trans (u.o a b hr).1 d.bl.size) d.at_
   have cd:w1.drew.heap.size≤s.heap.size:=I.size
   have cg:w.heap.size≤w1.drew.heap.size:=d.bl.size
   have S2:=hD (d.on I)
   have X:Hid (zaV s (fun a b=>R a b∨(a=w1.drew.heap.size∧b=s.heap.size)) p'):=hD E
   have N:=hD t
   have P:=hD G
   have C:=hD L
   have bh:=hD I
   have z:p'.ob.length=16:=E.ob
   clear I Q E t G L
   refine ⟨_,rfl,S2.o,fun d=>?_⟩
   refine rgN ?_
   have cj:w1.drew.heap.size=w1.heap.size:=rfl
   refine zeW (w1:=(s.alloc (.cells zAtt 35))) (i:=11) (j:=12) (v:=.pointer (some ⟨s.heap.size,0,none⟩)) rfl rfl (by kernel_rfl) (by rfl) (by rfl) (P.o s) (fun w=>by kernel_rfl) ?_ (d.new _) ?_ ?_
   ·(go_simp <;> with_reducible rfl)
   ·intro d
    refine rgN ?_
    have NB:Hid (Blk (s.alloc (.cells zAtt 35)) s.heap.size 35 zAtt):=hD (Blk.new s _ _)
    have ay:(s.alloc (.cells zAtt 35)).heap.size=s.heap.size+1:=by simp
    refine zal (i:=11) rfl (by kernel_rfl) (by rfl) (P.o (s.alloc (.cells zAtt 35))) (fun w=>by kernel_rfl) ?_
    rintro e k ⟨rfl,B⟩
    have S3:=hD (d.on B)
    have H:=hD B
    clear B
    refine ⟨_,rfl,S3.o,fun d=>?_⟩
    refine rgN ?_
    have M:=hD (NB.o.over H.o)
    have bo:=H.o.size
    have W:Hid (zaV k (fun a b=>R a b∨(a=w1.drew.heap.size∧b=s.heap.size)) p'):=hD ((X.o.below ((Below.refl _ _).alloc lr (.cells zAtt 35)) (fun a b hr=>by
     rcases hr with hr | ⟨rfl,rfl⟩
     ·have:=(u.o a b hr).1;omega
     ·omega)).below H.o (fun a b hr=>by
     rcases hr with hr | ⟨rfl,rfl⟩
     ·have:=(u.o a b hr).1;omega
     ·omega))
    have D:=d.grown (y:=k.setCells s.heap.size 0 (attL p')) (zai _ _ _ _ (zad _ _)) (by omega)
    refine zau (i:=13) rfl (by kernel_rfl) (by rfl) (zbC (.tmp 7) (.tmp 21) rfl s.heap.size 0 rfl rfl z (zcL M.o)) D (fun d=>?_)
    refine rgN ?_
    have K5:=hD (zcp M.o z)
    have ax:k.heap.size≤(k.setCells s.heap.size 0 (attL p')).heap.size:=(zai (g:=s.heap.size) (attL p') 0 k k (zad _ _)).size
    have A5:Hid (zaV (k.setCells s.heap.size 0 (attL p')) (NewR w R (k.setCells s.heap.size 0 (attL p'))) p'):=hD ((W.o.grown (zai (g:=s.heap.size) (attL p') 0 k k (zad _ _)) (fun a b hr=>by
     rcases hr with hr | ⟨rfl,rfl⟩
     ·have:=(u.o a b hr).1
      exact ⟨by omega,.inr (by omega)⟩
     ·exact ⟨by omega,by omega⟩)).to (fun a b hr=>by
     rcases hr with hr | ⟨rfl,rfl⟩
     ·exact .inl hr
     ·exact .inr ⟨by omega,by omega⟩))
    have S5:=hD D
    clear D
    refine wpAnyH_done (by kernel_rfl) ?_ _
    go_wp2
    go_meet
    exact ⟨_,p',i,rfl,C.o,N.o,S5.o,K5.o,by omega,A5.o⟩
   ·rintro e k ⟨rfl,B⟩
    have S3:=hD (d.on B)
    have H:=hD B
    clear B
    refine ⟨_,rfl,S3.o,fun d=>?_⟩
    refine rgN ?_
    have bo:=H.o.size
    have M:Hid (Blk (k.alloc (.cells zAtt 35)) k.heap.size 35 zAtt):=hD (Blk.new k _ _)
    have bt:=hD (d.new (.cells zAtt 35))
    have ay:(k.alloc (.cells zAtt 35)).heap.size=k.heap.size+1:=by simp
    refine zaG (w':=(k.alloc (.cells zAtt 35))) (i:=12) (v:=.pointer (some ⟨k.heap.size,0,none⟩)) rfl (by kernel_rfl) (by rfl) ?_ bt.o (fun d=>?_)
    ·(go_simp <;> with_reducible rfl)
    refine rgN ?_
    have W:Hid (zaV (k.alloc (.cells zAtt 35)) (fun a b=>R a b∨(a=w1.drew.heap.size∧b=s.heap.size)) p'):=hD ((X.o.below H.o (fun a b hr=>by
     rcases hr with hr | ⟨rfl,rfl⟩
     ·have:=(u.o a b hr).1;omega
     ·omega)).below ((Below.refl _ _).alloc lr (.cells zAtt 35)) (fun a b hr=>by
     rcases hr with hr | ⟨rfl,rfl⟩
     ·have:=(u.o a b hr).1;omega
     ·omega))
    have D:=d.grown (y:=(k.alloc (.cells zAtt 35)).setCells k.heap.size 0 (attL p')) (zai _ _ _ _ (zad _ _)) (by omega)
    refine zau (i:=13) rfl (by kernel_rfl) (by rfl) (zbC (.tmp 7) (.tmp 21) rfl k.heap.size 0 rfl rfl z (zcL M.o)) D (fun d=>?_)
    refine rgN ?_
    have K5:=hD (zcp M.o z)
    have ax:(k.alloc (.cells zAtt 35)).heap.size≤((k.alloc (.cells zAtt 35)).setCells k.heap.size 0 (attL p')).heap.size:=(zai (g:=k.heap.size) (attL p') 0 (k.alloc (.cells zAtt 35)) (k.alloc (.cells zAtt 35)) (zad _ _)).size
    have A5:Hid (zaV ((k.alloc (.cells zAtt 35)).setCells k.heap.size 0 (attL p')) (NewR w R ((k.alloc (.cells zAtt 35)).setCells k.heap.size 0 (attL p'))) p'):=hD ((W.o.grown (zai (g:=k.heap.size) (attL p') 0 (k.alloc (.cells zAtt 35)) (k.alloc (.cells zAtt 35)) (zad _ _)) (fun a b hr=>by
     rcases hr with hr | ⟨rfl,rfl⟩
     ·have:=(u.o a b hr).1
      exact ⟨by omega,.inr (by omega)⟩
     ·exact ⟨by omega,by omega⟩)).to (fun a b hr=>by
     rcases hr with hr | ⟨rfl,rfl⟩
     ·exact .inl hr
     ·exact .inr ⟨by omega,by omega⟩))
    have S5:=hD D
    clear D
    refine wpAnyH_done (by kernel_rfl) ?_ _
    go_wp2
    go_meet
    exact ⟨_,p',i,rfl,C.o,N.o,S5.o,K5.o,by omega,A5.o⟩
 case rest =>
  obtain ⟨g,p',i,bu,L,t,aa⟩:=hcut.o
  subst bu
  have TC:=hD aa
  have N:=hD t
  have C:=hD L
  have z:p'.ob.length=16:=aa.at'.ob
  clear hcut aa t L ST
  obtain ⟨bv,there,bj,Y⟩:=ca.o i p' C.o N.o
  have U:=hD bj
  have ce:=hD Y
  clear bj Y
  have bn:=hD TC.o.rn
  have ai:=TC.o.tk.c1
  go_wp2_with ((with_reducible refine zaO ?_ (.tmp 7) rfl g 0 rfl bn.o z ?_);· rfl)
  refine (ce.o wc TC.o.all).mono ?_
  rintro e w6 ⟨v6,rfl,aw,ag⟩
  have ah:=hD aw
  have J:=hD (TC.o.on ag)
  have bf:=hD J.o.rn
  have ar:=J.o.tk.c0
  have bg:=J.o.tk.c2
  have cm:=ag.size
  clear ag aw TC bn ai
  obtain ⟨ft,av⟩:∃ q,ztF f F=q:=⟨_,rfl⟩
  have FT:=hD av
  clear av
  cases ft
  ·go_wp2_with (go_at_call 165;refine (ztE _ f F).mono ?_;rintro e wq ⟨rfl,rfl⟩;rw [FT.o])
   go_ret
   exact ⟨_,rfl,zaQ J.o.tk.bl _,.inl ⟨rfl,⟨i,bv,there,C.o,U.o,.inl FT.o⟩,J.o.tk.rd,J.o.tk.at_⟩⟩
  ·obtain ⟨rr,am⟩:∃ q,zcm (i.say p.ats)=q:=⟨_,rfl⟩
   have ac:=hD am
   clear am
   go_wp2_with (first
    | (go_at_call 165;refine (ztE _ f F).mono ?_;rintro e wq ⟨rfl,rfl⟩;rw [FT.o])
    | ((with_reducible refine zaO ?_ (.tmp 7) rfl g 0 rfl bf.o z ?_);· rfl))
   refine (znT w6 0 w6.heap.size p' J.o.all lr).mono ?_
   rw [N.o,ac.o]
   rintro e w7 ⟨rfl,af⟩
   have l:=hD (J.o.on af)
   have bw:=hD l.o.rn
   have ch:=l.o.tk.c2
   have au:Hid (there=true→w7.ownsRow wc.heap.size 5 1 v6 bv.length (bvs bv)):=hD (fun ht=>zba (ah.o ht) af)
   clear af J bf ah ar bg
   cases rr
   ·go_wp2_with fail
    go_ret
    exact ⟨_,rfl,zaQ l.o.tk.bl _,.inl ⟨rfl,⟨i,bv,there,C.o,U.o,.inr (.inl ac.o)⟩,l.o.tk.rd,l.o.tk.at_⟩⟩
   ·cases there
    ·go_wp2_with fail
     go_ret
     exact ⟨_,rfl,zaQ l.o.tk.bl _,.inl ⟨rfl,⟨i,bv,false,C.o,U.o,.inr (.inr (.inl rfl))⟩,l.o.tk.rd,l.o.tk.at_⟩⟩
    ·have ae:=au.o rfl
     obtain ⟨A6,c6,rfl,_,_⟩:=zag ae
     have O7:=hD (At.own ae)
     have V7:Hid (At w7 vlo vhi A n b):=hD l.o.tk.v
     clear ae au
     obtain ⟨eq,aj⟩:∃ q,decide (bv=b)=q:=⟨_,rfl⟩
     have EQ:=hD aj
     clear aj
     go_wp2_with fail
     refine (zb6 w7 _ _ _ _ _ _ _ _ _ _ bv b O7.o V7.o).mono ?_
     rw [EQ.o]
     rintro e wq ⟨rfl,rfl⟩
     cases eq
     ·go_wp2_with fail
      go_ret
      exact ⟨_,rfl,zaQ l.o.tk.bl _,.inl ⟨rfl,⟨i,bv,true,C.o,U.o,.inr (.inr (.inr (of_decide_eq_false EQ.o)))⟩,l.o.tk.rd,l.o.tk.at_⟩⟩
     ·go_wp2_with (first
       | ((with_reducible refine zaO ?_ (.tmp 7) rfl g 0 rfl bw.o z ?_);· rfl)
       | (refine zhR rfl (.tmp 53) (.tmp 51) rfl r rfl p' rfl z l.o.tk.rd bc ?_;intro w8 bi az;have K8:=hD bi;have G8:=hD az;clear bi az;refine Hid.o ?_))
      refine hD ?_
      go_wp2
      go_ret
      have co:=l.o.tk.hr
      have bz:=l.o.tk.bl.size
      refine ⟨_,rfl,zan (zaQ l.o.tk.bl _) G8.o,.inr ⟨rfl,i,p',C.o,(by have h9:=U.o;rw [of_decide_eq_true EQ.o] at h9;exact h9),FT.o,ac.o,N.o,K8.o,?_⟩⟩
      refine (l.o.at'.grown G8.o (fun a b' hr=>?_)).to (fun a b' hr=>?_)
      ·rcases hr with hr | hr
       ·exact ⟨Nat.le_trans (u.o a b' hr).1 bz,.inl (u.o a b' hr).2⟩
       ·exact ⟨hr.2,.inl (by omega)⟩
      ·rcases hr with hr | hr
       ·exact .inl hr
       ·exact .inr ⟨hr.1,Nat.le_trans hr.2 G8.o.size⟩
end
section
set_option maxRecDepth 20000
set_option maxHeartbeats 1000000
open Go.RowKit
def okSg (x:SgP):Bool:=decide (x.xs.length≤255)&&x.xs.all okI
theorem lenSg {x:SgP} (h:okSg x=true):(fS x).length≤1022:=by
 unfold okSg at h
 rw [Bool.and_eq_true,decide_eq_true_eq] at h
 unfold fS
 rw [zxq]
 have h1:x.sg.xs.length≤255:=h.1
 omega
theorem lenDg {x:Int × List UInt8} (hw:x.2.length=16):(fD x).length≤16:=znn hw
set_option maxHeartbeats 2000000 in
theorem zys (w:World) (lo hi:Nat) (x:SgP) (hm:mS w lo hi x) (hw:wS x) (hh:hi≤w.heap.size) (u:okSg x=true) :
  Calls prog 175 #[.agg (sgC x)] w fun e w'=>∃ v,e = .returned (.tuple #[v,.int .i64 0])∧w'.ownsRow w.heap.size 5 1 v (fS x).length (bvs (fS x))∧Below w.heap.size w w':=by
 obtain ⟨S,H,K,J,D⟩:=info_parts zbK
 obtain ⟨st,A,n,c,xs⟩:=x
 have C:xs.length≤255∧xs.all okI=true:=by
  unfold okSg at u
  rw [Bool.and_eq_true,decide_eq_true_eq] at u
  exact u
 have k:xs.length=n:=hm.1.len
 have I:=hD C.2
 have hn:n≤255:=by omega
 have B:Hid (∀ y:World,Below w.heap.size w y→RowE inL mI wI y lo hi A n xs):=hD (fun y hy=>⟨hm.1.below (hy.mono hh),fun _ _=>trivial,fun _ _=>trivial⟩)
 have Q:Hid (fS ⟨st,A,n,c,xs⟩=[if st then 1 else 2,UInt8.ofNat n]++asB xs):=hD (by show [if st then 1 else 2,UInt8.ofNat xs.length]++asB xs=_;rw [k])
 have z:Hid ((asB xs).length=4*n):=hD (by rw [zoN,k])
 have Y:(w.alloc (.cells (sgC ⟨st,A,n,c,xs⟩) 94)).cell? ⟨w.heap.size,0,none⟩=some (.bool st):=(Blk.new w _ _).cell 0
 have c1:(w.alloc (.cells (sgC ⟨st,A,n,c,xs⟩) 94)).cell? ⟨w.heap.size,1,none⟩=some (.slice A n c):=(Blk.new w _ _).cell 1
 have T:Hid (Below w.heap.size w (w.alloc (.cells (sgC ⟨st,A,n,c,xs⟩) 94))):=hD ((Below.refl _ _).alloc lr _)
 have M:(w.alloc (.cells (sgC ⟨st,A,n,c,xs⟩) 94)).heap.size=w.heap.size+1:=by simp
 have X:(sgC ⟨st,A,n,c,xs⟩)[0]?=some (.bool st):=rfl
 have Z:(sgC ⟨st,A,n,c,xs⟩)[1]?=some (.slice A n c):=rfl
 clear hm u C k
 cases st
 ·go_enter func175,ntmps175
  go_wp2_with fail
  have t:=hD (T.o.alloc (by rw [M];omega) (.cells #[.int .u8 2,.int .u8 (n:Int)] 5))
  have L:Hid (((w.alloc (.cells (sgC ⟨false,A,n,c,xs⟩) 94)).alloc (.cells #[.int .u8 2,.int .u8 (n:Int)] 5)).ownsRow w.heap.size 5 1 (.slice (some ⟨w.heap.size+1,0,none⟩) 2 2) 2 (bvs [2,UInt8.ofNat n])):=hD (zce (by have hB:=Blk.new (w.alloc (.cells (sgC ⟨false,A,n,c,xs⟩) 94)) 5 #[.int .u8 2,.int .u8 (n:Int)];rw [M] at hB;exact hB) (Nat.le_succ _) lr (by unfold maxLen;decide) rfl (by rw [zoH hn];rfl))
  have i:w.heap.size≤((w.alloc (.cells (sgC ⟨false,A,n,c,xs⟩) 94)).alloc (.cells #[.int .u8 2,.int .u8 (n:Int)] 5)).heap.size:=t.o.size
  generalize (w.alloc (.cells (sgC ⟨false,A,n,c,xs⟩) 94)).alloc (.cells #[.int .u8 2,.int .u8 (n:Int)] 5)=w2 at *
  refine (zmv w2 lo hi A n c xs (B.o w2 t.o) (Nat.le_trans hh i) I.o hn).mono ?_
  rw [zyx,z.o]
  rintro e W ⟨V,rfl,d,b⟩
  obtain ⟨N,c3,rfl,_,_⟩:=zag d
  have E:=hD (At.own d)
  have j:=hD (zba L.o b)
  have O:=hD (zaa t.o b lr)
  have s:=Nat.le_trans i b.size
  clear d b L t
  go_wp2_with (at_builtin;go_must (refine zam _ rfl (.tmp 22) (.tmp 23) 22 rfl w.heap.size 5 S underlying22 H K J D (.slice (some ⟨w.heap.size+1,0,none⟩) 2 2) 2 [2,UInt8.ofNat n] rfl j.o _ _ N (4*n) c3 (asB xs) rfl E.o (by omega) s ?_);intro P U a l f;have F:=hD a;have G:=hD l;clear a l f)
  go_ret2
  refine ⟨P,rfl,?_,O.o.grown G.o s (fun g hg=>(j.o.lt g hg).1)⟩
  rw [Q.o,List.length_append,z.o]
  exact F.o
 ·go_enter func175,ntmps175
  go_wp2_with fail
  have t:=hD (T.o.alloc (by rw [M];omega) (.cells #[.int .u8 1,.int .u8 (n:Int)] 5))
  have L:Hid (((w.alloc (.cells (sgC ⟨true,A,n,c,xs⟩) 94)).alloc (.cells #[.int .u8 1,.int .u8 (n:Int)] 5)).ownsRow w.heap.size 5 1 (.slice (some ⟨w.heap.size+1,0,none⟩) 2 2) 2 (bvs [1,UInt8.ofNat n])):=hD (zce (by have hB:=Blk.new (w.alloc (.cells (sgC ⟨true,A,n,c,xs⟩) 94)) 5 #[.int .u8 1,.int .u8 (n:Int)];rw [M] at hB;exact hB) (Nat.le_succ _) lr (by unfold maxLen;decide) rfl (by rw [zoH hn];rfl))
  have i:w.heap.size≤((w.alloc (.cells (sgC ⟨true,A,n,c,xs⟩) 94)).alloc (.cells #[.int .u8 1,.int .u8 (n:Int)] 5)).heap.size:=t.o.size
  generalize (w.alloc (.cells (sgC ⟨true,A,n,c,xs⟩) 94)).alloc (.cells #[.int .u8 1,.int .u8 (n:Int)] 5)=w2 at *
  refine (zmv w2 lo hi A n c xs (B.o w2 t.o) (Nat.le_trans hh i) I.o hn).mono ?_
  rw [zyx,z.o]
  rintro e W ⟨V,rfl,d,b⟩
  obtain ⟨N,c3,rfl,_,_⟩:=zag d
  have E:=hD (At.own d)
  have j:=hD (zba L.o b)
  have O:=hD (zaa t.o b lr)
  have s:=Nat.le_trans i b.size
  clear d b L t
  go_wp2_with (at_builtin;go_must (refine zam _ rfl (.tmp 22) (.tmp 23) 22 rfl w.heap.size 5 S underlying22 H K J D (.slice (some ⟨w.heap.size+1,0,none⟩) 2 2) 2 [1,UInt8.ofNat n] rfl j.o _ _ N (4*n) c3 (asB xs) rfl E.o (by omega) s ?_);intro P U a l f;have F:=hD a;have G:=hD l;clear a l f)
  go_ret2
  refine ⟨P,rfl,?_,O.o.grown G.o s (fun g hg=>(j.o.lt g hg).1)⟩
  rw [Q.o,List.length_append,z.o]
  exact F.o
set_option maxHeartbeats 2000000 in
theorem zqf (w:World) (lo hi:Nat) (A:Option Addr) (n c:Nat) (l:List (SgP)) (h:RowE sgL mS wS w lo hi A n l) (hh:hi≤w.heap.size) (I:l.all okSg=true) (hn:n≤16) :
  Calls prog 174 #[.slice A n c,.func (.func 175) #[] #[]] w fun e w'=>∃ v,e = .returned (.tuple #[v,.int .i64 0])∧w'.ownsRow w.heap.size 5 1 v (catE fS l).length (bvs (catE fS l))∧Below w.heap.size w w':=by
 obtain ⟨i0,aa,ar,am,ae⟩:=info_parts zbK
 have H:=hD h
 have V:=hD h.len
 have s:=hD (List.all_eq_true.1 I)
 clear h I
 go_enter func174,ntmps174
 go_wp2_with fail
 go_loopw [6,13] (fun v i wr=>∃ (k c3:Nat) (B:Option Addr),k≤n∧v = .slice B (catE fS (l.take k)).length c3∧i = .int .i64 k∧wr.ownsRow w.heap.size 5 1 (.slice B (catE fS (l.take k)).length c3) (catE fS (l.take k)).length (bvs (catE fS (l.take k)))∧Below w.heap.size w wr) (fun _ i _=>n-(intOf i).toNat)
 case atStart=>exact ⟨0,0,none,Nat.zero_le _,rfl,rfl,World.ownsRow_nil _ _ _ _,Below.refl _ _⟩
 case round =>
  obtain ⟨k,c3,B,hk,rfl,rfl,u,t⟩:=hrel
  have HO:=hD u
  have WB:=hD t
  clear u t
  by_cases ai:k<n
  ·have Z:=hD (H.o.below mkS (WB.o.mono hh))
   obtain ⟨b,o,x,rfl,ay,z,hx,K⟩:=Z.o.row.at_ (sz:=2) (fun y hy=>zf8 y) ai
   have d:=List.mem_of_getElem? hx
   have HM:=hD (Z.o.mem x d)
   have X:=hD (Z.o.sz x d)
   have U:=hD (s.o x d)
   have HX:=hD hx
   have af:=hD K
   have av:=Nat.le_trans hh WB.o.size
   have L:Hid ((catE fS (l.take k)).length≤16352):=hD (by
    have h1:=zij (f:=fS) (M:=1022) (l:=l.take k) (fun y hy=>by have hy:=List.mem_of_mem_take hy;exact lenSg (s.o y hy))
    rw [List.length_take,Nat.min_eq_left (by rw [V.o];exact hk)] at h1
    exact Nat.le_trans h1 (by omega))
   generalize hR:catE fS (l.take k)=R at *
   have aj:=hD hR
   clear hR
   have az:True:=X.o
   have F:=hD (Blk.new wr 94 #[.bool false,.slice none 0 0])
   clear hx K d Z
   go_wp2_with (first
    | ((with_reducible refine zbo ?_ (.tmp 15) rfl b (o+k*2) rfl x af.o ?_);· rfl)
    | (refine zcS rfl (.tmp 8) (.tmp 16) rfl wr.heap.size rfl x rfl F.o rfl ?_;intro w2 z J;have B2:=hD z;have W2:Hid (Below wr.heap.size wr w2):=hD (((Below.refl _ _).alloc lr _).grown J (by simp) (by simp));clear z J;refine Hid.o ?_))
   refine hD ?_
   have ak:=hD (zba HO.o W2.o)
   have aw:=hD (zaa WB.o W2.o lr)
   have ah:=hD (mkS _ _ _ _ _ (fun p _ hp=>W2.o.cell (p:=p) (by omega)) HM.o)
   have ax:=Nat.le_trans av W2.o.size
   have T:Hid (w2.rangeAt wr.heap.size 0 (sgL x)):=hD (zah (l:=sgL x) B2.o)
   clear F
   go_wp2_with ((with_reducible refine zbo ?_ (.tmp 8) rfl wr.heap.size 0 rfl x T.o ?_);· rfl)
   refine (zys w2 lo hi x ah.o X.o ax U.o).mono ?_
   rintro e w3 ⟨v3,rfl,C,D⟩
   have Q:=hD (zba ak.o D)
   have S:=hD (zaa aw.o D lr)
   obtain ⟨A3,c4,rfl,N,G⟩:=zag C
   have ag:=hD (At.own C)
   have P:=hD (zgU (f:=fS) HX.o)
   rw [aj.o] at P
   have O:=S.o.size
   generalize hcx:fS x=cx at *
   have j:R.length+cx.length≤140737488355328:=by have h1:=L.o;have h2:cx.length≤1022:=(by rw [← hcx];exact lenSg U.o);omega
   clear C D hcx N G
   go_wp2_with (at_builtin;go_must (refine zam _ rfl (.tmp 26) (.tmp 27) 22 rfl w.heap.size 5 i0 underlying22 aa ar am ae (.slice B R.length c3) R.length R rfl Q.o _ _ A3 cx.length c4 cx rfl ag.o j O ?_);intro v1 w4 a W E;rw [← List.length_append,P.o] at a;have Y:=hD a;have au:=hD W;clear a W E)
   obtain ⟨A4,c5,rfl,_,_⟩:=zag Y.o
   go_roundw
   case rel=>exact ⟨k+1,c5,A4,by omega,rfl,by go_num,Y.o,S.o.grown au.o O (fun g hg=>(Q.o.lt g hg).1)⟩
   case measure=>simp [intOf];omega
  ·have ac:k=n:=by omega
   subst ac
   have HT:Hid (l.take k=l):=hD (List.take_of_length_le (by rw [V.o];exact lr))
   rw [HT.o] at HO
   go_wp2
   go_ret2
   refine ⟨.slice B (catE fS l).length c3,?_,HO.o,WB.o⟩
   rw [HT.o];rfl
theorem zyt (w:World) (lo hi:Nat) (x:Int × List UInt8) (hm:mD w lo hi x) (hw:wD x) (hh:hi≤w.heap.size) :
  Calls prog 179 #[.agg (zaq x.1 x.2)] w fun e w'=>∃ v,e = .returned (.tuple #[v,.int .i64 0])∧w'.ownsRow w.heap.size 5 1 v (fD x).length (bvs (fD x))∧Below w.heap.size w w':=by
 have b:Hid ((w.alloc (.cells (zaq x.1 x.2) 26)).rangeAt w.heap.size 0 (adL x)):=hD (zah (l:=adL x) (Blk.new w _ _))
 have a:x.2.length=16:=hw
 have d:Hid (Below w.heap.size w (w.alloc (.cells (zaq x.1 x.2) 26))):=hD ((Below.refl _ _).alloc lr _)
 clear hm hw
 go_enter func179,ntmps179
 go_wp2_with (with_reducible refine zcc rfl (.tmp 1) rfl w.heap.size 0 rfl x b.o a ?_)
 refine (zc0 _ x.1 x.2 a).mono ?_
 rintro e w1 ⟨v,rfl,c,hb⟩
 have f:=hD (zaC c (show w.heap.size≤_ by simp))
 have i:=hD (zaa d.o hb (by simp))
 clear c hb
 go_wp2
 go_ret2
 exact ⟨v,rfl,f.o,i.o⟩
set_option maxHeartbeats 2000000 in
theorem zkq (w:World) (lo hi:Nat) (A:Option Addr) (n c:Nat) (l:List (Int × List UInt8)) (h:RowE adL mD wD w lo hi A n l) (hh:hi≤w.heap.size) (hn:n≤32) :
  Calls prog 178 #[.slice A n c,.func (.func 179) #[] #[]] w fun e w'=>∃ v,e = .returned (.tuple #[v,.int .i64 0])∧w'.ownsRow w.heap.size 5 1 v (catE fD l).length (bvs (catE fD l))∧Below w.heap.size w w':=by
 obtain ⟨i0,aa,ar,am,ae⟩:=info_parts zbK
 have H:=hD h
 have V:=hD h.len
 clear h
 go_enter func178,ntmps178
 go_wp2_with fail
 go_loopw [6,13] (fun v i wr=>∃ (k c3:Nat) (B:Option Addr),k≤n∧v = .slice B (catE fD (l.take k)).length c3∧i = .int .i64 k∧wr.ownsRow w.heap.size 5 1 (.slice B (catE fD (l.take k)).length c3) (catE fD (l.take k)).length (bvs (catE fD (l.take k)))∧Below w.heap.size w wr) (fun _ i _=>n-(intOf i).toNat)
 case atStart=>exact ⟨0,0,none,Nat.zero_le _,rfl,rfl,World.ownsRow_nil _ _ _ _,Below.refl _ _⟩
 case round =>
  obtain ⟨k,c3,B,hk,rfl,rfl,z,u⟩:=hrel
  have HO:=hD z
  have WB:=hD u
  clear z u
  by_cases ai:k<n
  ·have G:=hD (H.o.below mkD (WB.o.mono hh))
   obtain ⟨b,o,x,rfl,ay,C,hx,L⟩:=G.o.row.at_ (sz:=17) (fun y hy=>zhv (G.o.sz y hy)) ai
   have d:=List.mem_of_getElem? hx
   have HM:=hD (G.o.mem x d)
   have X:=hD (G.o.sz x d)
   have HX:=hD hx
   have af:=hD L
   have av:=Nat.le_trans hh WB.o.size
   have N:Hid ((catE fD (l.take k)).length≤512):=hD (by
    have h1:=zij (f:=fD) (M:=16) (l:=l.take k) (fun y hy=>by have hy:=List.mem_of_mem_take hy;exact lenDg (H.o.sz y hy))
    rw [List.length_take,Nat.min_eq_left (by rw [V.o];exact hk)] at h1
    exact Nat.le_trans h1 (by omega))
   generalize hR:catE fD (l.take k)=R at *
   have aj:=hD hR
   clear hR
   have t:x.2.length=16:=X.o
   have I:=hD (Blk.new wr 26 zAdr)
   clear hx L d G
   go_wp2_with (first
    | ((with_reducible refine zcc ?_ (.tmp 15) rfl b (o+k*17) rfl x af.o t ?_);· rfl)
    | (refine zaI rfl (.tmp 8) (.tmp 16) rfl wr.heap.size rfl (s:=x.1) (bs:=x.2) rfl t I.o rfl ?_;intro w2 C K;have B2:=hD C;have Z:Hid (Below wr.heap.size wr w2):=hD (((Below.refl _ _).alloc lr _).grown K (by simp) (by simp));clear C K;refine Hid.o ?_))
   refine hD ?_
   have ak:=hD (zba HO.o Z.o)
   have aw:=hD (zaa WB.o Z.o lr)
   have ah:=hD (mkD _ _ _ _ _ (fun p _ hp=>Z.o.cell (p:=p) (by omega)) HM.o)
   have ax:=Nat.le_trans av Z.o.size
   have U:Hid (w2.rangeAt wr.heap.size 0 (adL x)):=hD (zah (l:=adL x) B2.o)
   clear I
   go_wp2_with ((with_reducible refine zcc ?_ (.tmp 8) rfl wr.heap.size 0 rfl x U.o t ?_);· rfl)
   refine (zyt w2 lo hi x ah.o X.o ax).mono ?_
   rintro e w3 ⟨v3,rfl,D,E⟩
   have S:=hD (zba ak.o E)
   have T:=hD (zaa aw.o E lr)
   obtain ⟨A3,c4,rfl,O,J⟩:=zag D
   have ag:=hD (At.own D)
   have Q:=hD (zgU (f:=fD) HX.o)
   rw [aj.o] at Q
   have P:=T.o.size
   generalize hcx:fD x=cx at *
   have j:R.length+cx.length≤140737488355328:=by have h1:=N.o;have h2:cx.length≤16:=(by rw [← hcx];exact lenDg t);omega
   clear D E hcx O J
   go_wp2_with (at_builtin;go_must (refine zam _ rfl (.tmp 26) (.tmp 27) 22 rfl w.heap.size 5 i0 underlying22 aa ar am ae (.slice B R.length c3) R.length R rfl S.o _ _ A3 cx.length c4 cx rfl ag.o j P ?_);intro v1 w4 a W F;rw [← List.length_append,Q.o] at a;have Y:=hD a;have au:=hD W;clear a W F)
   obtain ⟨A4,c5,rfl,_,_⟩:=zag Y.o
   go_roundw
   case rel=>exact ⟨k+1,c5,A4,by omega,rfl,by go_num,Y.o,T.o.grown au.o P (fun g hg=>(S.o.lt g hg).1)⟩
   case measure=>simp [intOf];omega
  ·have ac:k=n:=by omega
   subst ac
   have HT:Hid (l.take k=l):=hD (List.take_of_length_le (by rw [V.o];exact lr))
   rw [HT.o] at HO
   go_wp2
   go_ret2
   refine ⟨.slice B (catE fD l).length c3,?_,HO.o,WB.o⟩
   rw [HT.o];rfl
section
variable (w:World) (lo hi:Nat) (p:AtP) (h:zax w lo hi p) (hh:hi≤w.heap.size)
include h hh
theorem zuD (hn:p.path.length≤16) (c:p.path.all okSg=true):Calls prog 159 #[.agg (attC p),.int .i64 2] w (zbf w (zqz (p.path.map SgP.sg)) true):=by
 have a:=hD (AtS.start h hh)
 have z:=h.ob
 have k:=a.o.c0
 have i:=a.o.c1
 have s:=a.o.c2
 have j:=a.o.c3
 have b:=a.o.c21
 have f:=a.o.c22
 have d:=a.o.c23
 have n:(w.alloc (.cells (attC p) 35)).heap.size=w.heap.size+1:=by simp
 have A:=h.path.len
 clear h
 go_enter func159,ntmps159
 go_wp2_with fail
 refine (zqf _ lo hi p.pA p.pn p.pc p.path a.o.at_.path a.o.hx c (by omega)).mono ?_
 rw [cat_S]
 rintro e w1 ⟨v,rfl,l,hb⟩
 have u:=hD (zaa a.o.bl hb (by simp))
 have t:=hD (zaC l (show w.heap.size≤_ by simp))
 clear l hb
 go_wp2
 go_ret2
 exact zbf.yes t.o u.o
theorem zrG (hn:p.cl.length≤32) (hp:0<(clB p.cl).length):Calls prog 159 #[.agg (attC p),.int .i64 10] w (zbf w (clB p.cl) true):=by
 have a:=hD (AtS.start h hh)
 have B:=h.ob
 have n:=a.o.c0
 have k:=a.o.c1
 have t:=a.o.c2
 have l:=a.o.c3
 have d:=a.o.c21
 have i:=a.o.c22
 have f:=a.o.c23
 have s:(w.alloc (.cells (attC p) 35)).heap.size=w.heap.size+1:=by simp
 have C:=h.cl.len
 clear h
 go_enter func159,ntmps159
 go_wp2_with fail
 refine (zkq _ lo hi p.cA p.cn p.cc p.cl a.o.at_.cl a.o.hx (by omega)).mono ?_
 rw [zyy]
 rintro e w1 ⟨v,rfl,j,hb⟩
 have z:=hD (zaa a.o.bl hb (by simp))
 have u:=hD (zaC j (show w.heap.size≤_ by simp))
 obtain ⟨A,c,rfl,_,_⟩:=zag j
 have b:=hD hp
 clear j hb hp
 go_wp2_with (go_at_call 176;refine (zfv _ _ _ _ b.o).mono ?_;rintro e wq ⟨rfl,rfl⟩)
 go_ret2
 exact zbf.yes u.o z.o
theorem zpN (hn:p.cl.length≤32) (hp:(clB p.cl).length=0):Calls prog 159 #[.agg (attC p),.int .i64 10] w (zbf w (clB p.cl) false):=by
 have a:=hD (AtS.start h hh)
 have z:=h.ob
 have l:=a.o.c0
 have j:=a.o.c1
 have s:=a.o.c2
 have k:=a.o.c3
 have b:=a.o.c21
 have f:=a.o.c22
 have d:=a.o.c23
 have n:(w.alloc (.cells (attC p) 35)).heap.size=w.heap.size+1:=by simp
 have B:=h.cl.len
 clear h
 go_enter func159,ntmps159
 go_wp2_with fail
 refine (zkq _ lo hi p.cA p.cn p.cc p.cl a.o.at_.cl a.o.hx (by omega)).mono ?_
 rw [zyy]
 rintro e w1 ⟨v,rfl,i,hb⟩
 have u:=hD (zaa a.o.bl hb (by simp))
 have t:=hD (zaC i (show w.heap.size≤_ by simp))
 obtain ⟨A,c,rfl,_,_⟩:=zag i
 rw [hp]
 clear i hb t hp
 go_wp2_with (go_at_call 176;refine (zkY _ _ _).mono ?_;rintro e wq ⟨rfl,rfl⟩)
 go_ret2
 exact zbf.no u.o
theorem zrF (hn:p.ex.length≤100000) (hp:0<p.ex.length):Calls prog 159 #[.agg (attC p),.int .i64 16] w (zbf w (zbs p.ex) true):=by
 have a:=hD (AtS.start h hh)
 have D:=h.ob
 have s:=a.o.c0
 have l:=a.o.c1
 have u:=a.o.c2
 have n:=a.o.c3
 have d:=a.o.c21
 have j:=a.o.c22
 have f:=a.o.c23
 have t:(w.alloc (.cells (attC p) 35)).heap.size=w.heap.size+1:=by simp
 have z:=h.ex.1
 clear h
 go_enter func159,ntmps159
 go_wp2_with fail
 refine (zhO _ lo hi p.eA p.en p.ec p.ex a.o.at_.ex a.o.hx (by omega)).mono ?_
 rintro e w1 ⟨v,rfl,k,hb⟩
 have C:=hD (zaa a.o.bl hb (by simp))
 have B:=hD (zaC k (show w.heap.size≤_ by simp))
 obtain ⟨A,c,rfl,_,_⟩:=zag k
 have b:Hid (0<p.en*8):=hD (by omega)
 have i:Hid ((zbs p.ex).length=p.en*8):=hD (by rw [zff,z])
 clear k hb hp
 go_wp2_with (go_at_call 176;refine (zfv _ _ _ _ b.o).mono ?_;rintro e wq ⟨rfl,rfl⟩)
 go_ret2
 exact zbf.yes (by rw [i.o];exact B.o) C.o
end
end
end Go.Proofs.YtplpglfjcieloaaGreatDoor
