/-
  What take of package attr does with an attribute of a known kind, whatever its value is. The conditions: what said and value do with it.
  The values of kinds 2, 10 and 16 where what is told may not be right: segments without an AS, addresses that are none, more communities than may be. The condition: the sizes that bytes can have.
-/
import Derived.Deep.DeepCutAuto
import Derived.Test.YtjindligkhdddaaGreatDoorSDBH
set_option linter.unusedVariables false
set_option linter.unusedSimpArgs false
namespace Go.Proofs.YtjindligkhdddaaGreatDoor
section
open Go.RowKit
def ztj (f F:Int):Bool:=decide (f=F)||(decide (F=192)&&decide (f=224))
theorem zti (w:World) (f F:Int):Calls Tryz.prog 177 #[.int .i64 f,.int .i64 F] w fun e w'=>e = .returned (.bool (ztj f F))∧w=w':=by
 unfold ztj
 by_cases h1:f=F
 ·have e1:(f==F)=true:=by rw [h1];simp
  rw [decide_eq_true h1]
  clear h1
  go_enter Tryz.func177,Tryz.ntmps177
  go_wp2
  go_ret
  exact ⟨rfl,rfl⟩
 ·have e1:(f==F)=false:=beq_eq_false_iff_ne.2 h1
  rw [decide_eq_false h1]
  clear h1
  by_cases h2:F=192
  ·subst h2
   have hor:bits .or .i64 192 32=224:=by kernel_rfl
   by_cases h3:f=224
   ·have e3:(f==224)=true:=by rw [h3];rfl
    rw [decide_eq_true h3]
    clear h3
    go_enter Tryz.func177,Tryz.ntmps177
    go_wp2
    go_ret
    exact ⟨rfl,rfl⟩
   ·have e3:(f==224)=false:=beq_eq_false_iff_ne.2 h3
    rw [decide_eq_false h3]
    clear h3
    go_enter Tryz.func177,Tryz.ntmps177
    go_wp2
    go_ret
    exact ⟨rfl,rfl⟩
  ·have e2:(F==192)=false:=beq_eq_false_iff_ne.2 h2
   rw [decide_eq_false h2]
   clear h2
   go_enter Tryz.func177,Tryz.ntmps177
   go_wp2
   go_ret
   exact ⟨rfl,rfl⟩
def SaidG (w:World) (K:Int) (i:Item) (e:Ending) (w':World):Prop :=
 ∃ T V,e = .returned (.iface T V)∧Below w.heap.size w w'∧∀ (p:AtP) (R:Nat→Nat→Prop),(∀ a b,R a b→b≤w.heap.size)→zaV w R p→∃ p',zaV w' (fun a b=>R a b∨(a=w.heap.size∧b=w'.heap.size)) p'∧p'.ats=i.say p.ats ∧
  ∀ x,Calls Tryz.prog 175 #[.agg (attC p),.int .i64 K,.iface T V] x fun e y=>e = .returned (.agg (attC p'))∧Below x.heap.size x y
def NewR (w:World) (R:Nat→Nat→Prop) (x:World) (a b:Nat):Prop:=R a b∨(w.heap.size≤a∧b≤x.heap.size)
structure TkG (w x:World) (r m vlo vhi:Nat) (R:Nat→Nat→Prop) (p:AtP) (rv:Value) (q:RawP):Prop where
 rd:Blk x r 191 (rdgC p rv m)
 bx:Blk x w.heap.size 175 (rawC q)
 v:At x vlo vhi q.A q.n q.v
 at_:zaV x R p
 bl:Below w.heap.size w x
 hv:vhi≤w.heap.size
 hr:r<w.heap.size
 hR:∀ a b,R a b→b≤w.heap.size∧r<a
section
variable {w x y:World} {r m vlo vhi:Nat} {R:Nat→Nat→Prop} {p p':AtP} {rv:Value} {q:RawP} {g:Nat}
theorem TkG.on (h:TkG w x r m vlo vhi R p rv q) (hb:Below x.heap.size x y):TkG w y r m vlo vhi R p rv q :=
 ⟨h.rd.over hb,h.bx.over hb,h.v.below (hb.mono (Nat.le_trans h.hv h.bl.size)),h.at_.below hb (fun a b hr=>Nat.le_trans (h.hR a b hr).1 h.bl.size),zaa h.bl hb (Nat.le_refl _),h.hv,h.hr,h.hR⟩
theorem TkG.drew (h:TkG w x r m vlo vhi R p rv q):TkG w x.drew r m vlo vhi R p rv q:=⟨h.rd.drew,h.bx.drew,h.v.drew,h.at_.keep (fun _ _ _ _ _ _=>rfl),zam h.bl,h.hv,h.hr,h.hR⟩
theorem TkG.new (h:TkG w x r m vlo vhi R p rv q) (ob:Obj):TkG w (x.alloc ob) r m vlo vhi R p rv q:=h.on ((Below.refl _ _).alloc (Nat.le_refl _) _)
theorem TkG.grown (h:TkG w x r m vlo vhi R p rv q) (hg:x.grownBy y (some g)) (hn:w.heap.size<g):TkG w y r m vlo vhi R p rv q :=
 ⟨h.rd.grown hg (fun e=>by injection e;have:=h.hr;omega),h.bx.grown hg (fun e=>by injection e;omega),h.v.grown hg (Nat.le_trans h.hv h.bl.size) (fun k hk=>by injection hk;have:=h.hv;omega),h.at_.grown hg (fun a b hr=>⟨Nat.le_trans (h.hR a b hr).1 h.bl.size,.inr (by have:=(h.hR a b hr).1;omega)⟩),h.bl.grown hg h.bl.size (fun k hk=>by injection hk;omega),h.hv,h.hr,h.hR⟩
theorem TkG.c0 (h:TkG w x r m vlo vhi R p rv q):x.cell? ⟨w.heap.size,0,none⟩=some (.int .i64 q.f):=h.bx.cell 0
theorem TkG.c1 (h:TkG w x r m vlo vhi R p rv q):x.cell? ⟨w.heap.size,1,none⟩=some (.int .i64 q.k):=h.bx.cell 1
theorem TkG.c2 (h:TkG w x r m vlo vhi R p rv q):x.cell? ⟨w.heap.size,2,none⟩=some (.slice q.A q.n q.c):=h.bx.cell 2
structure TkC (w x:World) (r m vlo vhi:Nat) (R:Nat→Nat→Prop) (p p':AtP) (rv:Value) (q:RawP) (g:Nat):Prop where
 tk:TkG w x r m vlo vhi R p rv q
 bk:Blk x g 49 (attC p')
 hg:w.heap.size<g
 at':zaV x (NewR w R x) p'
theorem TkC.on (h:TkC w x r m vlo vhi R p p' rv q g) (hb:Below x.heap.size x y):TkC w y r m vlo vhi R p p' rv q g :=
 ⟨h.tk.on hb,h.bk.over hb,h.hg,(h.at'.below hb (fun a b hr=>by
  rcases hr with hr | hr
  ·exact Nat.le_trans (h.tk.hR a b hr).1 h.tk.bl.size
  ·exact hr.2)).to (fun a b hr=>by
  rcases hr with hr | hr
  ·exact .inl hr
  ·exact .inr ⟨hr.1,Nat.le_trans hr.2 hb.size⟩)⟩
theorem TkC.all (h:TkC w x r m vlo vhi R p p' rv q g):zaO x 0 x.heap.size p':=h.at'.at_ (fun a b hr=>⟨Nat.zero_le _,by
  rcases hr with hr | hr
  ·exact Nat.le_trans (h.tk.hR a b hr).1 h.tk.bl.size
  ·exact hr.2⟩)
theorem TkC.rn (h:TkC w x r m vlo vhi R p p' rv q g):x.rangeAt g 0 (attL p'):=zah (l:=attL p') h.bk
end
def TakeG (w:World) (r m:Nat) (R:Nat→Nat→Prop) (p:AtP) (rv:Value) (f F:Int) (b:List UInt8) (Sh:Item→Prop) (Pv:Item→List UInt8→Bool→Prop) (e:Ending) (w':World):Prop :=
 ∃ out:Int,e = .returned (.int .i64 out)∧w.grownBy w' (some r)∧((out=2∧(∃ i bv there,Sh i∧Pv i bv there∧(ztj f F=false∨zdj (i.say p.ats)=false∨there=false∨bv≠b))∧Blk w' r 191 (rdgC p rv m)∧zaV w' R p) ∨
  (out=0∧∃ i p',Sh i∧Pv i b true∧ztj f F=true∧zdj (i.say p.ats)=true∧p'.ats=i.say p.ats∧Blk w' r 191 (rdgC p' rv m)∧zaV w' (NewR w R w') p'))
set_option maxRecDepth 20000 in
set_option maxHeartbeats 6000000 in
theorem zup {rv:Value} (w:World) (r m vlo vhi:Nat) (R:Nat→Nat→Prop) (p:AtP) (f K F:Int) (A:Option Addr) (n c:Nat) (b:List UInt8) (Sh:Item→Prop) (Pv:Item→List UInt8→Bool→Prop) (hb:Blk w r 191 (rdgC p rv m)) (hv:At w vlo vhi A n b) (hvh:vhi≤w.heap.size) (hat:zaV w R p) (hR:∀ a b,R a b→b≤w.heap.size∧r<a)
  (HS:∀ x,At x vlo vhi A n b→vhi≤x.heap.size→Calls Tryz.prog 176 #[.int .i64 K,.slice A n c] x (fun e y=>∃ i,Sh i∧SaidG x K i e y))
  (HV:∀ i p',Sh i→p'.ats=i.say p.ats→∃ bv there,Pv i bv there∧∀ x,zaO x 0 x.heap.size p'→Calls Tryz.prog 133 #[.agg (attC p'),.int .i64 K] x (zbd x bv there)) :
  Calls Tryz.prog 140 #[.pointer (some ⟨r,0,none⟩),.agg (rawC ⟨f,K,A,n,c,b⟩),.int .i64 F] w (TakeG w r m R p rv f F b Sh Pv):=by
 have ST:Hid (TkG w (w.alloc (.cells (rawC ⟨f,K,A,n,c,b⟩) 175)) r m vlo vhi R p rv ⟨f,K,A,n,c,b⟩):=hide ⟨hb.alloc _,Blk.new w _ _,hv.alloc hvh _,hat.below ((Below.refl _ _).alloc (Nat.le_refl _) _) (fun a b hr=>(hR a b hr).1),(Below.refl _ _).alloc (Nat.le_refl _) _,hvh,hb.lt,hR⟩
 have HOB:=hat.ob
 have HSH:=hide HS
 have HVH:=hide HV
 have HRR:=hide hR
 clear hb hv hat HS HV hR
 go_enter Tryz.func140,Tryz.ntmps140
 go_wp2_with fail
 generalize hw1:w.alloc (.cells (rawC ⟨f,K,A,n,c,b⟩) 175)=w1 at *
 clear hw1
 have hq1:w.heap.size<w1.heap.size:=ST.out.bx.lt
 go_cut [7] (fun v wx=>Hid (∃ g p' i,v = .pointer (some ⟨g,0,none⟩)∧Sh i∧p'.ats=i.say p.ats∧TkC w wx r m vlo vhi R p p' rv ⟨f,K,A,n,c,b⟩ g))
 case first =>
  have SD:=hide ST.out.drew
  refine wp_region_held_drew (S:=fun x=>TkG w x r m vlo vhi R p rv ⟨f,K,A,n,c,b⟩) (by kernel_rfl) SD.out (fun hHeld=>?_)
  refine rgT 0 ?_
  refine rgT 1 ?_
  refine rgT 2 ?_
  refine rgV 3 (.agg (attC p)) ?_ ?_
  ·(intro w' hSw;exact zcr (.tmp 12) rfl r 0 rfl (ziN hSw.rd) HOB)
  refine rgT 4 ?_
  refine rgK 5 (fun w' hSw=>hSw.c1) ?_
  refine rgT 6 ?_
  refine rgK 7 (fun w' hSw=>hSw.c1) ?_
  refine rgT 8 ?_
  refine rgK 9 (fun w' hSw=>hSw.c2) ?_
  refine zeG (w1:=(w1.drew.alloc (.cells zAtt 49))) (i:=10) (j:=12) (v:=.pointer (some ⟨w1.heap.size,0,none⟩)) rfl rfl (by kernel_rfl) (by rfl) (by rfl) (HSH.out w1.drew hHeld.v (Nat.le_trans hHeld.hv hHeld.bl.size)) (fun w=>by kernel_rfl) ?_ (hHeld.new _) ?_ ?_
  ·(go_simp <;> with_reducible rfl)
  ·intro hHeld
   refine rgN ?_
   have NB:Hid (Blk (w1.drew.alloc (.cells zAtt 49)) w1.heap.size 49 zAtt):=hide (Blk.new w1.drew _ _)
   have hcw:(w1.drew.alloc (.cells zAtt 49)).heap.size=w1.heap.size+1:=by simp
   refine zal (i:=10) rfl (by kernel_rfl) (by rfl) (HSH.out (w1.drew.alloc (.cells zAtt 49)) hHeld.v (Nat.le_trans hHeld.hv hHeld.bl.size)) (fun w=>by kernel_rfl) ?_
   rintro e w2 ⟨i,hSh,T,V,rfl,hb2,hsd⟩
   obtain ⟨p',hat2,hsay,hwith⟩:=hsd p R (fun a b hr=>Nat.le_trans (HRR.out a b hr).1 hHeld.bl.size) hHeld.at_
   have hzw:(w1.drew.alloc (.cells zAtt 49)).heap.size≤w2.heap.size:=hb2.size
   have hzl:w.heap.size≤(w1.drew.alloc (.cells zAtt 49)).heap.size:=hHeld.bl.size
   have S2:=hide (hHeld.on hb2)
   have RT2:Hid (zaV w2 (fun a b=>R a b∨(a=(w1.drew.alloc (.cells zAtt 49)).heap.size∧b=w2.heap.size)) p'):=hide hat2
   have SAY:=hide hsay
   have WITH:=hide hwith
   have SHI:=hide hSh
   have HB2:=hide hb2
   have hol:p'.ob.length=16:=hat2.ob
   clear hb2 hsd hat2 hsay hwith hSh
   refine ⟨_,rfl,S2.out,fun hHeld=>?_⟩
   refine rgN ?_
   refine zal (i:=11) rfl (by kernel_rfl) (by rfl) (WITH.out w2) (fun w=>by kernel_rfl) ?_
   rintro e w3 ⟨rfl,hb3⟩
   have S3:=hide (hHeld.on hb3)
   have HB3:=hide hb3
   clear hb3
   refine ⟨_,rfl,S3.out,fun hHeld=>?_⟩
   refine rgN ?_
   have NB3:=hide ((NB.out.over HB2.out).over HB3.out)
   have hz3:=HB3.out.size
   have RT3:Hid (zaV w3 (fun a b=>R a b∨(a=(w1.drew.alloc (.cells zAtt 49)).heap.size∧b=w2.heap.size)) p'):=hide (RT2.out.below HB3.out (fun a b hr=>by
    rcases hr with hr | ⟨rfl,rfl⟩
    ·have:=(HRR.out a b hr).1;omega
    ·omega))
   have hS4:=hHeld.grown (y:=w3.setCells w1.heap.size 0 (attL p')) (zai _ _ _ _ (zac _ _)) (by omega)
   refine zau (i:=13) rfl (by kernel_rfl) (by rfl) (zbA (.tmp 7) (.tmp 21) rfl w1.heap.size 0 rfl rfl hol (zcH NB3.out)) hS4 (fun hHeld=>?_)
   refine rgN ?_
   have K5:=hide (zck NB3.out hol)
   have hz5:w3.heap.size≤(w3.setCells w1.heap.size 0 (attL p')).heap.size:=(zai (g:=w1.heap.size) (attL p') 0 w3 w3 (zac _ _)).size
   have A5:Hid (zaV (w3.setCells w1.heap.size 0 (attL p')) (NewR w R (w3.setCells w1.heap.size 0 (attL p'))) p'):=hide ((RT3.out.grown (zai (g:=w1.heap.size) (attL p') 0 w3 w3 (zac _ _)) (fun a b hr=>by
    rcases hr with hr | ⟨rfl,rfl⟩
    ·have:=(HRR.out a b hr).1
     exact ⟨by omega,.inr (by omega)⟩
    ·exact ⟨by omega,by omega⟩)).to (fun a b hr=>by
    rcases hr with hr | ⟨rfl,rfl⟩
    ·exact .inl hr
    ·exact .inr ⟨by omega,by omega⟩))
   have S5:=hide hS4
   clear hS4
   refine wpAnyH_done (by kernel_rfl) ?_ _
   go_wp2
   go_meet
   exact ⟨_,p',i,rfl,SHI.out,SAY.out,S5.out,K5.out,by omega,A5.out⟩
  ·rintro e w2 ⟨i,hSh,T,V,rfl,hb2,hsd⟩
   obtain ⟨p',hat2,hsay,hwith⟩:=hsd p R (fun a b hr=>Nat.le_trans (HRR.out a b hr).1 hHeld.bl.size) hHeld.at_
   have hzw:w1.drew.heap.size≤w2.heap.size:=hb2.size
   have hzl:w.heap.size≤w1.drew.heap.size:=hHeld.bl.size
   have S2:=hide (hHeld.on hb2)
   have RT2:Hid (zaV w2 (fun a b=>R a b∨(a=w1.drew.heap.size∧b=w2.heap.size)) p'):=hide hat2
   have SAY:=hide hsay
   have WITH:=hide hwith
   have SHI:=hide hSh
   have HB2:=hide hb2
   have hol:p'.ob.length=16:=hat2.ob
   clear hb2 hsd hat2 hsay hwith hSh
   refine ⟨_,rfl,S2.out,fun hHeld=>?_⟩
   refine rgN ?_
   have hdr:w1.drew.heap.size=w1.heap.size:=rfl
   refine zeG (w1:=(w2.alloc (.cells zAtt 49))) (i:=11) (j:=12) (v:=.pointer (some ⟨w2.heap.size,0,none⟩)) rfl rfl (by kernel_rfl) (by rfl) (by rfl) (WITH.out w2) (fun w=>by kernel_rfl) ?_ (hHeld.new _) ?_ ?_
   ·(go_simp <;> with_reducible rfl)
   ·intro hHeld
    refine rgN ?_
    have NB:Hid (Blk (w2.alloc (.cells zAtt 49)) w2.heap.size 49 zAtt):=hide (Blk.new w2 _ _)
    have hcw:(w2.alloc (.cells zAtt 49)).heap.size=w2.heap.size+1:=by simp
    refine zal (i:=11) rfl (by kernel_rfl) (by rfl) (WITH.out (w2.alloc (.cells zAtt 49))) (fun w=>by kernel_rfl) ?_
    rintro e w3 ⟨rfl,hb3⟩
    have S3:=hide (hHeld.on hb3)
    have HB3:=hide hb3
    clear hb3
    refine ⟨_,rfl,S3.out,fun hHeld=>?_⟩
    refine rgN ?_
    have NB3:=hide (NB.out.over HB3.out)
    have hz3:=HB3.out.size
    have RT3:Hid (zaV w3 (fun a b=>R a b∨(a=w1.drew.heap.size∧b=w2.heap.size)) p'):=hide ((RT2.out.below ((Below.refl _ _).alloc (Nat.le_refl _) (.cells zAtt 49)) (fun a b hr=>by
     rcases hr with hr | ⟨rfl,rfl⟩
     ·have:=(HRR.out a b hr).1;omega
     ·omega)).below HB3.out (fun a b hr=>by
     rcases hr with hr | ⟨rfl,rfl⟩
     ·have:=(HRR.out a b hr).1;omega
     ·omega))
    have hS4:=hHeld.grown (y:=w3.setCells w2.heap.size 0 (attL p')) (zai _ _ _ _ (zac _ _)) (by omega)
    refine zau (i:=13) rfl (by kernel_rfl) (by rfl) (zbA (.tmp 7) (.tmp 21) rfl w2.heap.size 0 rfl rfl hol (zcH NB3.out)) hS4 (fun hHeld=>?_)
    refine rgN ?_
    have K5:=hide (zck NB3.out hol)
    have hz5:w3.heap.size≤(w3.setCells w2.heap.size 0 (attL p')).heap.size:=(zai (g:=w2.heap.size) (attL p') 0 w3 w3 (zac _ _)).size
    have A5:Hid (zaV (w3.setCells w2.heap.size 0 (attL p')) (NewR w R (w3.setCells w2.heap.size 0 (attL p'))) p'):=hide ((RT3.out.grown (zai (g:=w2.heap.size) (attL p') 0 w3 w3 (zac _ _)) (fun a b hr=>by
     rcases hr with hr | ⟨rfl,rfl⟩
     ·have:=(HRR.out a b hr).1
      exact ⟨by omega,.inr (by omega)⟩
     ·exact ⟨by omega,by omega⟩)).to (fun a b hr=>by
     rcases hr with hr | ⟨rfl,rfl⟩
     ·exact .inl hr
     ·exact .inr ⟨by omega,by omega⟩))
    have S5:=hide hS4
    clear hS4
    refine wpAnyH_done (by kernel_rfl) ?_ _
    go_wp2
    go_meet
    exact ⟨_,p',i,rfl,SHI.out,SAY.out,S5.out,K5.out,by omega,A5.out⟩
   ·rintro e w3 ⟨rfl,hb3⟩
    have S3:=hide (hHeld.on hb3)
    have HB3:=hide hb3
    clear hb3
    refine ⟨_,rfl,S3.out,fun hHeld=>?_⟩
    refine rgN ?_
    have hz3:=HB3.out.size
    have NB3:Hid (Blk (w3.alloc (.cells zAtt 49)) w3.heap.size 49 zAtt):=hide (Blk.new w3 _ _)
    have S3a:=hide (hHeld.new (.cells zAtt 49))
    have hcw:(w3.alloc (.cells zAtt 49)).heap.size=w3.heap.size+1:=by simp
    refine zaE (w':=(w3.alloc (.cells zAtt 49))) (i:=12) (v:=.pointer (some ⟨w3.heap.size,0,none⟩)) rfl (by kernel_rfl) (by rfl) ?_ S3a.out (fun hHeld=>?_)
    ·(go_simp <;> with_reducible rfl)
    refine rgN ?_
    have RT3:Hid (zaV (w3.alloc (.cells zAtt 49)) (fun a b=>R a b∨(a=w1.drew.heap.size∧b=w2.heap.size)) p'):=hide ((RT2.out.below HB3.out (fun a b hr=>by
     rcases hr with hr | ⟨rfl,rfl⟩
     ·have:=(HRR.out a b hr).1;omega
     ·omega)).below ((Below.refl _ _).alloc (Nat.le_refl _) (.cells zAtt 49)) (fun a b hr=>by
     rcases hr with hr | ⟨rfl,rfl⟩
     ·have:=(HRR.out a b hr).1;omega
     ·omega))
    have hS4:=hHeld.grown (y:=(w3.alloc (.cells zAtt 49)).setCells w3.heap.size 0 (attL p')) (zai _ _ _ _ (zac _ _)) (by omega)
    refine zau (i:=13) rfl (by kernel_rfl) (by rfl) (zbA (.tmp 7) (.tmp 21) rfl w3.heap.size 0 rfl rfl hol (zcH NB3.out)) hS4 (fun hHeld=>?_)
    refine rgN ?_
    have K5:=hide (zck NB3.out hol)
    have hz5:(w3.alloc (.cells zAtt 49)).heap.size≤((w3.alloc (.cells zAtt 49)).setCells w3.heap.size 0 (attL p')).heap.size:=(zai (g:=w3.heap.size) (attL p') 0 (w3.alloc (.cells zAtt 49)) (w3.alloc (.cells zAtt 49)) (zac _ _)).size
    have A5:Hid (zaV ((w3.alloc (.cells zAtt 49)).setCells w3.heap.size 0 (attL p')) (NewR w R ((w3.alloc (.cells zAtt 49)).setCells w3.heap.size 0 (attL p'))) p'):=hide ((RT3.out.grown (zai (g:=w3.heap.size) (attL p') 0 (w3.alloc (.cells zAtt 49)) (w3.alloc (.cells zAtt 49)) (zac _ _)) (fun a b hr=>by
     rcases hr with hr | ⟨rfl,rfl⟩
     ·have:=(HRR.out a b hr).1
      exact ⟨by omega,.inr (by omega)⟩
     ·exact ⟨by omega,by omega⟩)).to (fun a b hr=>by
     rcases hr with hr | ⟨rfl,rfl⟩
     ·exact .inl hr
     ·exact .inr ⟨by omega,by omega⟩))
    have S5:=hide hS4
    clear hS4
    refine wpAnyH_done (by kernel_rfl) ?_ _
    go_wp2
    go_meet
    exact ⟨_,p',i,rfl,SHI.out,SAY.out,S5.out,K5.out,by omega,A5.out⟩
 case rest =>
  obtain ⟨g,p',i,hv7,hSh,hsay,htc⟩:=hcut.out
  subst hv7
  have TC:=hide htc
  have SAY:=hide hsay
  have SHI:=hide hSh
  have hol:p'.ob.length=16:=htc.at'.ob
  clear hcut htc hsay hSh ST
  obtain ⟨bv,there,hbv,hval⟩:=HVH.out i p' SHI.out SAY.out
  have HBV:=hide hbv
  have HVL:=hide hval
  clear hbv hval
  have RN5:=hide TC.out.rn
  have k5_1:=TC.out.tk.c1
  go_wp2_with ((with_reducible refine zaL ?_ (.tmp 7) rfl g 0 rfl RN5.out hol ?_);· rfl)
  refine (HVL.out wc TC.out.all).mono ?_
  rintro e w6 ⟨v6,rfl,ho6,hb6⟩
  have HO6:=hide ho6
  have TC6:=hide (TC.out.on hb6)
  have RN6:=hide TC6.out.rn
  have k6_0:=TC6.out.tk.c0
  have k6_2:=TC6.out.tk.c2
  have hzc:=hb6.size
  clear hb6 ho6 TC RN5 k5_1
  obtain ⟨ft,hft⟩:∃ q,ztj f F=q:=⟨_,rfl⟩
  have FT:=hide hft
  clear hft
  cases ft
  ·go_wp2_with (go_at_call 177;refine (zti _ f F).mono ?_;rintro e wq ⟨rfl,rfl⟩;rw [FT.out])
   go_ret
   exact ⟨_,rfl,zaK TC6.out.tk.bl _,.inl ⟨rfl,⟨i,bv,there,SHI.out,HBV.out,.inl FT.out⟩,TC6.out.tk.rd,TC6.out.tk.at_⟩⟩
  ·obtain ⟨rr,hrr⟩:∃ q,zdj (i.say p.ats)=q:=⟨_,rfl⟩
   have RRR:=hide hrr
   clear hrr
   go_wp2_with (first
    | (go_at_call 177;refine (zti _ f F).mono ?_;rintro e wq ⟨rfl,rfl⟩;rw [FT.out])
    | ((with_reducible refine zaL ?_ (.tmp 7) rfl g 0 rfl RN6.out hol ?_);· rfl))
   refine (zns w6 0 w6.heap.size p' TC6.out.all (Nat.le_refl _)).mono ?_
   rw [SAY.out,RRR.out]
   rintro e w7 ⟨rfl,hb7⟩
   have TC7:=hide (TC6.out.on hb7)
   have RN7:=hide TC7.out.rn
   have k7_2:=TC7.out.tk.c2
   have HO7:Hid (there=true→w7.ownsRow wc.heap.size 5 1 v6 bv.length (bvs bv)):=hide (fun ht=>za6 (HO6.out ht) hb7)
   clear hb7 TC6 RN6 HO6 k6_0 k6_2
   cases rr
   ·go_wp2_with fail
    go_ret
    exact ⟨_,rfl,zaK TC7.out.tk.bl _,.inl ⟨rfl,⟨i,bv,there,SHI.out,HBV.out,.inr (.inl RRR.out)⟩,TC7.out.tk.rd,TC7.out.tk.at_⟩⟩
   ·cases there
    ·go_wp2_with fail
     go_ret
     exact ⟨_,rfl,zaK TC7.out.tk.bl _,.inl ⟨rfl,⟨i,bv,false,SHI.out,HBV.out,.inr (.inr (.inl rfl))⟩,TC7.out.tk.rd,TC7.out.tk.at_⟩⟩
    ·have ho7:=HO7.out rfl
     obtain ⟨A6,c6,rfl,_,_⟩:=zag ho7
     have O7:=hide (At.own ho7)
     have V7:Hid (At w7 vlo vhi A n b):=hide TC7.out.tk.v
     clear ho7 HO7
     obtain ⟨eq,heq⟩:∃ q,decide (bv=b)=q:=⟨_,rfl⟩
     have EQ:=hide heq
     clear heq
     go_wp2_with fail
     refine (zb2 w7 _ _ _ _ _ _ _ _ _ _ bv b O7.out V7.out).mono ?_
     rw [EQ.out]
     rintro e wq ⟨rfl,rfl⟩
     cases eq
     ·go_wp2_with fail
      go_ret
      exact ⟨_,rfl,zaK TC7.out.tk.bl _,.inl ⟨rfl,⟨i,bv,true,SHI.out,HBV.out,.inr (.inr (.inr (of_decide_eq_false EQ.out)))⟩,TC7.out.tk.rd,TC7.out.tk.at_⟩⟩
     ·go_wp2_with (first
       | ((with_reducible refine zaL ?_ (.tmp 7) rfl g 0 rfl RN7.out hol ?_);· rfl)
       | (refine zhD rfl (.tmp 53) (.tmp 51) rfl r rfl p' rfl hol TC7.out.tk.rd HOB ?_;intro w8 hb8 hg8;have K8:=hide hb8;have G8:=hide hg8;clear hb8 hg8;refine Hid.out ?_))
      refine hide ?_
      go_wp2
      go_ret
      have hrw:=TC7.out.tk.hr
      have hbl:=TC7.out.tk.bl.size
      refine ⟨_,rfl,zak (zaK TC7.out.tk.bl _) G8.out,.inr ⟨rfl,i,p',SHI.out,(by have h9:=HBV.out;rw [of_decide_eq_true EQ.out] at h9;exact h9),FT.out,RRR.out,SAY.out,K8.out,?_⟩⟩
      refine (TC7.out.at'.grown G8.out (fun a b' hr=>?_)).to (fun a b' hr=>?_)
      ·rcases hr with hr | hr
       ·exact ⟨Nat.le_trans (HRR.out a b' hr).1 hbl,.inl (HRR.out a b' hr).2⟩
       ·exact ⟨hr.2,.inl (by omega)⟩
      ·rcases hr with hr | hr
       ·exact .inl hr
       ·exact .inr ⟨hr.1,Nat.le_trans hr.2 G8.out.size⟩
end
section
set_option maxRecDepth 20000
set_option maxHeartbeats 1000000
open Go.RowKit
def okSg (x:SgP):Bool:=decide (x.xs.length≤255)&&x.xs.all okI
theorem lenSg {x:SgP} (h:okSg x=true):(fS x).length≤1022:=by
 unfold okSg at h
 rw [Bool.and_eq_true,decide_eq_true_eq] at h
 unfold fS
 rw [zw4]
 have h1:x.sg.xs.length≤255:=h.1
 omega
theorem lenDg {x:Int × List UInt8} (hw:x.2.length=16):(fD x).length≤16:=zmZ hw
set_option maxHeartbeats 2000000 in
theorem zya (w:World) (lo hi:Nat) (x:SgP) (hm:mS w lo hi x) (hw:wS x) (hh:hi≤w.heap.size) (hok:okSg x=true) :
  Calls Tryz.prog 162 #[.agg (sgC x)] w fun e w'=>∃ v,e = .returned (.tuple #[v,.int .i64 0])∧w'.ownsRow w.heap.size 5 1 v (fS x).length (bvs (fS x))∧Below w.heap.size w w':=by
 obtain ⟨i0,hi0,hz0,hz1,hz2'⟩:=info_parts zbQ
 obtain ⟨st,A,n,c,xs⟩:=x
 have hok':xs.length≤255∧xs.all okI=true:=by
  unfold okSg at hok
  rw [Bool.and_eq_true,decide_eq_true_eq] at hok
  exact hok
 have hlen:xs.length=n:=hm.1.len
 have ALL:=hide hok'.2
 have hn:n≤255:=by omega
 have HROW:Hid (∀ y:World,Below w.heap.size w y→RowE inL mI wI y lo hi A n xs):=hide (fun y hy=>⟨hm.1.below (hy.mono hh),fun _ _=>trivial,fun _ _=>trivial⟩)
 have HF:Hid (fS ⟨st,A,n,c,xs⟩=[if st then 1 else 2,UInt8.ofNat n]++asB xs):=hide (by show [if st then 1 else 2,UInt8.ofNat xs.length]++asB xs=_;rw [hlen])
 have HAL:Hid ((asB xs).length=4*n):=hide (by rw [zor,hlen])
 have c0:(w.alloc (.cells (sgC ⟨st,A,n,c,xs⟩) 152)).cell? ⟨w.heap.size,0,none⟩=some (.bool st):=(Blk.new w _ _).cell 0
 have c1:(w.alloc (.cells (sgC ⟨st,A,n,c,xs⟩) 152)).cell? ⟨w.heap.size,1,none⟩=some (.slice A n c):=(Blk.new w _ _).cell 1
 have B0:Hid (Below w.heap.size w (w.alloc (.cells (sgC ⟨st,A,n,c,xs⟩) 152))):=hide ((Below.refl _ _).alloc (Nat.le_refl _) _)
 have hz:(w.alloc (.cells (sgC ⟨st,A,n,c,xs⟩) 152)).heap.size=w.heap.size+1:=by simp
 have g0:(sgC ⟨st,A,n,c,xs⟩)[0]?=some (.bool st):=rfl
 have g1:(sgC ⟨st,A,n,c,xs⟩)[1]?=some (.slice A n c):=rfl
 clear hm hok hok' hlen
 cases st
 ·go_enter Tryz.func162,Tryz.ntmps162
  go_wp2_with fail
  have W2:=hide (B0.out.alloc (by rw [hz];omega) (.cells #[.int .u8 2,.int .u8 (n:Int)] 5))
  have HH:Hid (((w.alloc (.cells (sgC ⟨false,A,n,c,xs⟩) 152)).alloc (.cells #[.int .u8 2,.int .u8 (n:Int)] 5)).ownsRow w.heap.size 5 1 (.slice (some ⟨w.heap.size+1,0,none⟩) 2 2) 2 (bvs [2,UInt8.ofNat n])):=hide (zco (by have hB:=Blk.new (w.alloc (.cells (sgC ⟨false,A,n,c,xs⟩) 152)) 5 #[.int .u8 2,.int .u8 (n:Int)];rw [hz] at hB;exact hB) (Nat.le_succ _) (Nat.le_refl _) (by unfold maxLen;decide) rfl (by rw [zoh hn];rfl))
  have hz2:w.heap.size≤((w.alloc (.cells (sgC ⟨false,A,n,c,xs⟩) 152)).alloc (.cells #[.int .u8 2,.int .u8 (n:Int)] 5)).heap.size:=W2.out.size
  generalize (w.alloc (.cells (sgC ⟨false,A,n,c,xs⟩) 152)).alloc (.cells #[.int .u8 2,.int .u8 (n:Int)] 5)=w2 at *
  refine (zl4 w2 lo hi A n c xs (HROW.out w2 W2.out) (Nat.le_trans hh hz2) ALL.out hn).mono ?_
  rw [zyg,HAL.out]
  rintro e w3 ⟨v3,rfl,ho3,hb3⟩
  obtain ⟨A3,c3,rfl,_,_⟩:=zag ho3
  have AT3:=hide (At.own ho3)
  have HO3:=hide (za6 HH.out hb3)
  have W3:=hide (zaa W2.out hb3 (Nat.le_refl _))
  have hz3:=Nat.le_trans hz2 hb3.size
  clear ho3 hb3 HH W2
  go_wp2_with (at_builtin;go_must (refine zap _ rfl (.tmp 22) (.tmp 23) 22 rfl w.heap.size 5 i0 Tryz.underlying22 hi0 hz0 hz1 hz2' (.slice (some ⟨w.heap.size+1,0,none⟩) 2 2) 2 [2,UInt8.ofNat n] rfl HO3.out _ _ A3 (4*n) c3 (asB xs) rfl AT3.out (by omega) hz3 ?_);intro v4 w4 hown4 hg4 hat4;have HO4:=hide hown4;have HG4:=hide hg4;clear hown4 hg4 hat4)
  go_ret2
  refine ⟨v4,rfl,?_,W3.out.grown HG4.out hz3 (fun g hg=>(HO3.out.lt g hg).1)⟩
  rw [HF.out,List.length_append,HAL.out]
  exact HO4.out
 ·go_enter Tryz.func162,Tryz.ntmps162
  go_wp2_with fail
  have W2:=hide (B0.out.alloc (by rw [hz];omega) (.cells #[.int .u8 1,.int .u8 (n:Int)] 5))
  have HH:Hid (((w.alloc (.cells (sgC ⟨true,A,n,c,xs⟩) 152)).alloc (.cells #[.int .u8 1,.int .u8 (n:Int)] 5)).ownsRow w.heap.size 5 1 (.slice (some ⟨w.heap.size+1,0,none⟩) 2 2) 2 (bvs [1,UInt8.ofNat n])):=hide (zco (by have hB:=Blk.new (w.alloc (.cells (sgC ⟨true,A,n,c,xs⟩) 152)) 5 #[.int .u8 1,.int .u8 (n:Int)];rw [hz] at hB;exact hB) (Nat.le_succ _) (Nat.le_refl _) (by unfold maxLen;decide) rfl (by rw [zoh hn];rfl))
  have hz2:w.heap.size≤((w.alloc (.cells (sgC ⟨true,A,n,c,xs⟩) 152)).alloc (.cells #[.int .u8 1,.int .u8 (n:Int)] 5)).heap.size:=W2.out.size
  generalize (w.alloc (.cells (sgC ⟨true,A,n,c,xs⟩) 152)).alloc (.cells #[.int .u8 1,.int .u8 (n:Int)] 5)=w2 at *
  refine (zl4 w2 lo hi A n c xs (HROW.out w2 W2.out) (Nat.le_trans hh hz2) ALL.out hn).mono ?_
  rw [zyg,HAL.out]
  rintro e w3 ⟨v3,rfl,ho3,hb3⟩
  obtain ⟨A3,c3,rfl,_,_⟩:=zag ho3
  have AT3:=hide (At.own ho3)
  have HO3:=hide (za6 HH.out hb3)
  have W3:=hide (zaa W2.out hb3 (Nat.le_refl _))
  have hz3:=Nat.le_trans hz2 hb3.size
  clear ho3 hb3 HH W2
  go_wp2_with (at_builtin;go_must (refine zap _ rfl (.tmp 22) (.tmp 23) 22 rfl w.heap.size 5 i0 Tryz.underlying22 hi0 hz0 hz1 hz2' (.slice (some ⟨w.heap.size+1,0,none⟩) 2 2) 2 [1,UInt8.ofNat n] rfl HO3.out _ _ A3 (4*n) c3 (asB xs) rfl AT3.out (by omega) hz3 ?_);intro v4 w4 hown4 hg4 hat4;have HO4:=hide hown4;have HG4:=hide hg4;clear hown4 hg4 hat4)
  go_ret2
  refine ⟨v4,rfl,?_,W3.out.grown HG4.out hz3 (fun g hg=>(HO3.out.lt g hg).1)⟩
  rw [HF.out,List.length_append,HAL.out]
  exact HO4.out
set_option maxHeartbeats 2000000 in
theorem zpV (w:World) (lo hi:Nat) (A:Option Addr) (n c:Nat) (l:List (SgP)) (h:RowE sgL mS wS w lo hi A n l) (hh:hi≤w.heap.size) (hok:l.all okSg=true) (hn:n≤16) :
  Calls Tryz.prog 161 #[.slice A n c,.func (.func 162) #[] #[]] w fun e w'=>∃ v,e = .returned (.tuple #[v,.int .i64 0])∧w'.ownsRow w.heap.size 5 1 v (catE fS l).length (bvs (catE fS l))∧Below w.heap.size w w':=by
 obtain ⟨i0,hi0,hz0,hz1,hz2⟩:=info_parts zbQ
 have H:=hide h
 have HXL:=hide h.len
 have HALL:=hide (List.all_eq_true.1 hok)
 clear h hok
 go_enter Tryz.func161,Tryz.ntmps161
 go_wp2_with fail
 go_loopw [6,13] (fun v i wr=>∃ (k c3:Nat) (B:Option Addr),k≤n∧v = .slice B (catE fS (l.take k)).length c3∧i = .int .i64 k∧wr.ownsRow w.heap.size 5 1 (.slice B (catE fS (l.take k)).length c3) (catE fS (l.take k)).length (bvs (catE fS (l.take k)))∧Below w.heap.size w wr) (fun _ i _=>n-(intOf i).toNat)
 case atStart=>exact ⟨0,0,none,Nat.zero_le _,rfl,rfl,World.ownsRow_nil _ _ _ _,Below.refl _ _⟩
 case round =>
  obtain ⟨k,c3,B,hk,rfl,rfl,hown,hbel⟩:=hrel
  have HO:=hide hown
  have WB:=hide hbel
  clear hown hbel
  by_cases hlt:k<n
  ·have Yr:=hide (H.out.below mkS (WB.out.mono hh))
   obtain ⟨b,o,x,rfl,hb1,hb2,hx,hat⟩:=Yr.out.row.at_ (sz:=2) (fun y hy=>zfQ y) hlt
   have hmem:=List.mem_of_getElem? hx
   have HM:=hide (Yr.out.mem x hmem)
   have HWY:=hide (Yr.out.sz x hmem)
   have HOK:=hide (HALL.out x hmem)
   have HX:=hide hx
   have HAT:=hide hat
   have hh1:=Nat.le_trans hh WB.out.size
   have HLEN:Hid ((catE fS (l.take k)).length≤16352):=hide (by
    have h1:=zh5 (f:=fS) (M:=1022) (l:=l.take k) (fun y hy=>by have hy:=List.mem_of_mem_take hy;exact lenSg (HALL.out y hy))
    rw [List.length_take,Nat.min_eq_left (by rw [HXL.out];exact hk)] at h1
    exact Nat.le_trans h1 (by omega))
   generalize hR:catE fS (l.take k)=R at *
   have HRR:=hide hR
   clear hR
   have HWX:True:=HWY.out
   have NEW:=hide (Blk.new wr 152 #[.bool false,.slice none 0 0])
   clear hx hat hmem Yr
   go_wp2_with (first
    | ((with_reducible refine zbl ?_ (.tmp 15) rfl b (o+k*2) rfl x HAT.out ?_);· rfl)
    | (refine zcN rfl (.tmp 8) (.tmp 16) rfl wr.heap.size rfl x rfl NEW.out rfl ?_;intro w2 hb2 hg2;have B2:=hide hb2;have W2:Hid (Below wr.heap.size wr w2):=hide (((Below.refl _ _).alloc (Nat.le_refl _) _).grown hg2 (by simp) (by simp));clear hb2 hg2;refine Hid.out ?_))
   refine hide ?_
   have HO2:=hide (za6 HO.out W2.out)
   have WB2:=hide (zaa WB.out W2.out (Nat.le_refl _))
   have HM2:=hide (mkS _ _ _ _ _ (fun p _ hp=>W2.out.cell (p:=p) (by omega)) HM.out)
   have hh2:=Nat.le_trans hh1 W2.out.size
   have RNG2:Hid (w2.rangeAt wr.heap.size 0 (sgL x)):=hide (zah (l:=sgL x) B2.out)
   clear NEW
   go_wp2_with ((with_reducible refine zbl ?_ (.tmp 8) rfl wr.heap.size 0 rfl x RNG2.out ?_);· rfl)
   refine (zya w2 lo hi x HM2.out HWY.out hh2 HOK.out).mono ?_
   rintro e w3 ⟨v3,rfl,ho3,hb3⟩
   have HO3:=hide (za6 HO2.out hb3)
   have WB3:=hide (zaa WB2.out hb3 (Nat.le_refl _))
   obtain ⟨A3,c4,rfl,hc3a,hc3b⟩:=zag ho3
   have AT3:=hide (At.own ho3)
   have HCN:=hide (zgy (f:=fS) HX.out)
   rw [HRR.out] at HCN
   have hsz:=WB3.out.size
   generalize hcx:fS x=cx at *
   have hbound:R.length+cx.length≤140737488355328:=by have h1:=HLEN.out;have h2:cx.length≤1022:=(by rw [← hcx];exact lenSg HOK.out);omega
   clear ho3 hb3 hcx hc3a hc3b
   go_wp2_with (at_builtin;go_must (refine zap _ rfl (.tmp 26) (.tmp 27) 22 rfl w.heap.size 5 i0 Tryz.underlying22 hi0 hz0 hz1 hz2 (.slice B R.length c3) R.length R rfl HO3.out _ _ A3 cx.length c4 cx rfl AT3.out hbound hsz ?_);intro v1 w4 hown1 hg4 hat4;rw [← List.length_append,HCN.out] at hown1;have HO1:=hide hown1;have HG4:=hide hg4;clear hown1 hg4 hat4)
   obtain ⟨A4,c5,rfl,_,_⟩:=zag HO1.out
   go_roundw
   case rel=>exact ⟨k+1,c5,A4,by omega,rfl,by go_num,HO1.out,WB3.out.grown HG4.out hsz (fun g hg=>(HO3.out.lt g hg).1)⟩
   case measure=>simp [intOf];omega
  ·have hkn:k=n:=by omega
   subst hkn
   have HT:Hid (l.take k=l):=hide (List.take_of_length_le (by rw [HXL.out];exact Nat.le_refl _))
   rw [HT.out] at HO
   go_wp2
   go_ret2
   refine ⟨.slice B (catE fS l).length c3,?_,HO.out,WB.out⟩
   rw [HT.out];rfl
theorem zyb (w:World) (lo hi:Nat) (x:Int × List UInt8) (hm:mD w lo hi x) (hw:wD x) (hh:hi≤w.heap.size) :
  Calls Tryz.prog 166 #[.agg (zas x.1 x.2)] w fun e w'=>∃ v,e = .returned (.tuple #[v,.int .i64 0])∧w'.ownsRow w.heap.size 5 1 v (fD x).length (bvs (fD x))∧Below w.heap.size w w':=by
 have RNG:Hid ((w.alloc (.cells (zas x.1 x.2) 40)).rangeAt w.heap.size 0 (adL x)):=hide (zah (l:=adL x) (Blk.new w _ _))
 have HWX:x.2.length=16:=hw
 have B0:Hid (Below w.heap.size w (w.alloc (.cells (zas x.1 x.2) 40))):=hide ((Below.refl _ _).alloc (Nat.le_refl _) _)
 clear hm hw
 go_enter Tryz.func166,Tryz.ntmps166
 go_wp2_with (with_reducible refine zb8 rfl (.tmp 1) rfl w.heap.size 0 rfl x RNG.out HWX ?_)
 refine (zdg _ x.1 x.2 HWX).mono ?_
 rintro e w1 ⟨v,rfl,ho,hb⟩
 have HO:=hide (zaA ho (show w.heap.size≤_ by simp))
 have W1:=hide (zaa B0.out hb (by simp))
 clear ho hb
 go_wp2
 go_ret2
 exact ⟨v,rfl,HO.out,W1.out⟩
set_option maxHeartbeats 2000000 in
theorem zj5 (w:World) (lo hi:Nat) (A:Option Addr) (n c:Nat) (l:List (Int × List UInt8)) (h:RowE adL mD wD w lo hi A n l) (hh:hi≤w.heap.size) (hn:n≤32) :
  Calls Tryz.prog 165 #[.slice A n c,.func (.func 166) #[] #[]] w fun e w'=>∃ v,e = .returned (.tuple #[v,.int .i64 0])∧w'.ownsRow w.heap.size 5 1 v (catE fD l).length (bvs (catE fD l))∧Below w.heap.size w w':=by
 obtain ⟨i0,hi0,hz0,hz1,hz2⟩:=info_parts zbQ
 have H:=hide h
 have HXL:=hide h.len
 clear h
 go_enter Tryz.func165,Tryz.ntmps165
 go_wp2_with fail
 go_loopw [6,13] (fun v i wr=>∃ (k c3:Nat) (B:Option Addr),k≤n∧v = .slice B (catE fD (l.take k)).length c3∧i = .int .i64 k∧wr.ownsRow w.heap.size 5 1 (.slice B (catE fD (l.take k)).length c3) (catE fD (l.take k)).length (bvs (catE fD (l.take k)))∧Below w.heap.size w wr) (fun _ i _=>n-(intOf i).toNat)
 case atStart=>exact ⟨0,0,none,Nat.zero_le _,rfl,rfl,World.ownsRow_nil _ _ _ _,Below.refl _ _⟩
 case round =>
  obtain ⟨k,c3,B,hk,rfl,rfl,hown,hbel⟩:=hrel
  have HO:=hide hown
  have WB:=hide hbel
  clear hown hbel
  by_cases hlt:k<n
  ·have Yr:=hide (H.out.below mkD (WB.out.mono hh))
   obtain ⟨b,o,x,rfl,hb1,hb2,hx,hat⟩:=Yr.out.row.at_ (sz:=17) (fun y hy=>zhe (Yr.out.sz y hy)) hlt
   have hmem:=List.mem_of_getElem? hx
   have HM:=hide (Yr.out.mem x hmem)
   have HWY:=hide (Yr.out.sz x hmem)
   have HX:=hide hx
   have HAT:=hide hat
   have hh1:=Nat.le_trans hh WB.out.size
   have HLEN:Hid ((catE fD (l.take k)).length≤512):=hide (by
    have h1:=zh5 (f:=fD) (M:=16) (l:=l.take k) (fun y hy=>by have hy:=List.mem_of_mem_take hy;exact lenDg (H.out.sz y hy))
    rw [List.length_take,Nat.min_eq_left (by rw [HXL.out];exact hk)] at h1
    exact Nat.le_trans h1 (by omega))
   generalize hR:catE fD (l.take k)=R at *
   have HRR:=hide hR
   clear hR
   have HWX:x.2.length=16:=HWY.out
   have NEW:=hide (Blk.new wr 40 zAdr)
   clear hx hat hmem Yr
   go_wp2_with (first
    | ((with_reducible refine zb8 ?_ (.tmp 15) rfl b (o+k*17) rfl x HAT.out HWX ?_);· rfl)
    | (refine zaG rfl (.tmp 8) (.tmp 16) rfl wr.heap.size rfl (s:=x.1) (bs:=x.2) rfl HWX NEW.out rfl ?_;intro w2 hb2 hg2;have B2:=hide hb2;have W2:Hid (Below wr.heap.size wr w2):=hide (((Below.refl _ _).alloc (Nat.le_refl _) _).grown hg2 (by simp) (by simp));clear hb2 hg2;refine Hid.out ?_))
   refine hide ?_
   have HO2:=hide (za6 HO.out W2.out)
   have WB2:=hide (zaa WB.out W2.out (Nat.le_refl _))
   have HM2:=hide (mkD _ _ _ _ _ (fun p _ hp=>W2.out.cell (p:=p) (by omega)) HM.out)
   have hh2:=Nat.le_trans hh1 W2.out.size
   have RNG2:Hid (w2.rangeAt wr.heap.size 0 (adL x)):=hide (zah (l:=adL x) B2.out)
   clear NEW
   go_wp2_with ((with_reducible refine zb8 ?_ (.tmp 8) rfl wr.heap.size 0 rfl x RNG2.out HWX ?_);· rfl)
   refine (zyb w2 lo hi x HM2.out HWY.out hh2).mono ?_
   rintro e w3 ⟨v3,rfl,ho3,hb3⟩
   have HO3:=hide (za6 HO2.out hb3)
   have WB3:=hide (zaa WB2.out hb3 (Nat.le_refl _))
   obtain ⟨A3,c4,rfl,hc3a,hc3b⟩:=zag ho3
   have AT3:=hide (At.own ho3)
   have HCN:=hide (zgy (f:=fD) HX.out)
   rw [HRR.out] at HCN
   have hsz:=WB3.out.size
   generalize hcx:fD x=cx at *
   have hbound:R.length+cx.length≤140737488355328:=by have h1:=HLEN.out;have h2:cx.length≤16:=(by rw [← hcx];exact lenDg HWX);omega
   clear ho3 hb3 hcx hc3a hc3b
   go_wp2_with (at_builtin;go_must (refine zap _ rfl (.tmp 26) (.tmp 27) 22 rfl w.heap.size 5 i0 Tryz.underlying22 hi0 hz0 hz1 hz2 (.slice B R.length c3) R.length R rfl HO3.out _ _ A3 cx.length c4 cx rfl AT3.out hbound hsz ?_);intro v1 w4 hown1 hg4 hat4;rw [← List.length_append,HCN.out] at hown1;have HO1:=hide hown1;have HG4:=hide hg4;clear hown1 hg4 hat4)
   obtain ⟨A4,c5,rfl,_,_⟩:=zag HO1.out
   go_roundw
   case rel=>exact ⟨k+1,c5,A4,by omega,rfl,by go_num,HO1.out,WB3.out.grown HG4.out hsz (fun g hg=>(HO3.out.lt g hg).1)⟩
   case measure=>simp [intOf];omega
  ·have hkn:k=n:=by omega
   subst hkn
   have HT:Hid (l.take k=l):=hide (List.take_of_length_le (by rw [HXL.out];exact Nat.le_refl _))
   rw [HT.out] at HO
   go_wp2
   go_ret2
   refine ⟨.slice B (catE fD l).length c3,?_,HO.out,WB.out⟩
   rw [HT.out];rfl
section
variable (w:World) (lo hi:Nat) (p:AtP) (h:zaO w lo hi p) (hh:hi≤w.heap.size)
include h hh
theorem zuf (hn:p.path.length≤16) (hok:p.path.all okSg=true):Calls Tryz.prog 133 #[.agg (attC p),.int .i64 2] w (zbd w (zqe (p.path.map SgP.sg)) true):=by
 have S0:=hide (AtS.start h hh)
 have HOB:=h.ob
 have k0_0:=S0.out.c0
 have k0_1:=S0.out.c1
 have k0_2:=S0.out.c2
 have k0_3:=S0.out.c3
 have k0_21:=S0.out.c21
 have k0_22:=S0.out.c22
 have k0_23:=S0.out.c23
 have hsz0:(w.alloc (.cells (attC p) 49)).heap.size=w.heap.size+1:=by simp
 have hl:=h.path.len
 clear h
 go_enter Tryz.func133,Tryz.ntmps133
 go_wp2_with fail
 refine (zpV _ lo hi p.pA p.pn p.pc p.path S0.out.at_.path S0.out.hx hok (by omega)).mono ?_
 rw [cat_S]
 rintro e w1 ⟨v,rfl,ho,hb⟩
 have S1:=hide (zaa S0.out.bl hb (by simp))
 have HO:=hide (zaA ho (show w.heap.size≤_ by simp))
 clear ho hb
 go_wp2
 go_ret2
 exact zbd.yes HO.out S1.out
theorem zro (hn:p.cl.length≤32) (hp:0<(clB p.cl).length):Calls Tryz.prog 133 #[.agg (attC p),.int .i64 10] w (zbd w (clB p.cl) true):=by
 have S0:=hide (AtS.start h hh)
 have HOB:=h.ob
 have k0_0:=S0.out.c0
 have k0_1:=S0.out.c1
 have k0_2:=S0.out.c2
 have k0_3:=S0.out.c3
 have k0_21:=S0.out.c21
 have k0_22:=S0.out.c22
 have k0_23:=S0.out.c23
 have hsz0:(w.alloc (.cells (attC p) 49)).heap.size=w.heap.size+1:=by simp
 have hl:=h.cl.len
 clear h
 go_enter Tryz.func133,Tryz.ntmps133
 go_wp2_with fail
 refine (zj5 _ lo hi p.cA p.cn p.cc p.cl S0.out.at_.cl S0.out.hx (by omega)).mono ?_
 rw [zyh]
 rintro e w1 ⟨v,rfl,ho,hb⟩
 have S1:=hide (zaa S0.out.bl hb (by simp))
 have HO:=hide (zaA ho (show w.heap.size≤_ by simp))
 obtain ⟨A,c,rfl,_,_⟩:=zag ho
 have HPOS:=hide hp
 clear ho hb hp
 go_wp2_with (go_at_call 163;refine (zfh _ _ _ _ HPOS.out).mono ?_;rintro e wq ⟨rfl,rfl⟩)
 go_ret2
 exact zbd.yes HO.out S1.out
theorem zpt (hn:p.cl.length≤32) (hp:(clB p.cl).length=0):Calls Tryz.prog 133 #[.agg (attC p),.int .i64 10] w (zbd w (clB p.cl) false):=by
 have S0:=hide (AtS.start h hh)
 have HOB:=h.ob
 have k0_0:=S0.out.c0
 have k0_1:=S0.out.c1
 have k0_2:=S0.out.c2
 have k0_3:=S0.out.c3
 have k0_21:=S0.out.c21
 have k0_22:=S0.out.c22
 have k0_23:=S0.out.c23
 have hsz0:(w.alloc (.cells (attC p) 49)).heap.size=w.heap.size+1:=by simp
 have hl:=h.cl.len
 clear h
 go_enter Tryz.func133,Tryz.ntmps133
 go_wp2_with fail
 refine (zj5 _ lo hi p.cA p.cn p.cc p.cl S0.out.at_.cl S0.out.hx (by omega)).mono ?_
 rw [zyh]
 rintro e w1 ⟨v,rfl,ho,hb⟩
 have S1:=hide (zaa S0.out.bl hb (by simp))
 have HO:=hide (zaA ho (show w.heap.size≤_ by simp))
 obtain ⟨A,c,rfl,_,_⟩:=zag ho
 rw [hp]
 clear ho hb HO hp
 go_wp2_with (go_at_call 163;refine (zky _ _ _).mono ?_;rintro e wq ⟨rfl,rfl⟩)
 go_ret2
 exact zbd.no S1.out
theorem zrn (hn:p.ex.length≤100000) (hp:0<p.ex.length):Calls Tryz.prog 133 #[.agg (attC p),.int .i64 16] w (zbd w (zbp p.ex) true):=by
 have S0:=hide (AtS.start h hh)
 have HOB:=h.ob
 have k0_0:=S0.out.c0
 have k0_1:=S0.out.c1
 have k0_2:=S0.out.c2
 have k0_3:=S0.out.c3
 have k0_21:=S0.out.c21
 have k0_22:=S0.out.c22
 have k0_23:=S0.out.c23
 have hsz0:(w.alloc (.cells (attC p) 49)).heap.size=w.heap.size+1:=by simp
 have hl:=h.ex.1
 clear h
 go_enter Tryz.func133,Tryz.ntmps133
 go_wp2_with fail
 refine (zhB _ lo hi p.eA p.en p.ec p.ex S0.out.at_.ex S0.out.hx (by omega)).mono ?_
 rintro e w1 ⟨v,rfl,ho,hb⟩
 have S1:=hide (zaa S0.out.bl hb (by simp))
 have HO:=hide (zaA ho (show w.heap.size≤_ by simp))
 obtain ⟨A,c,rfl,_,_⟩:=zag ho
 have HPOS:Hid (0<p.en*8):=hide (by omega)
 have HFL:Hid ((zbp p.ex).length=p.en*8):=hide (by rw [ze1,hl])
 clear ho hb hp
 go_wp2_with (go_at_call 163;refine (zfh _ _ _ _ HPOS.out).mono ?_;rintro e wq ⟨rfl,rfl⟩)
 go_ret2
 exact zbd.yes (by rw [HFL.out];exact HO.out) S1.out
end
end
end Go.Proofs.YtjindligkhdddaaGreatDoor
