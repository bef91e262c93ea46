/-
  What Read of package attr does with whatever attributes, one step after the other. No condition beyond what each step asks.
-/
import Derived.Test.YtplpglfjcieloaaGreatDoorKSBH
set_option linter.unusedVariables false
set_option linter.unusedSimpArgs false
namespace Go.Proofs.YtplpglfjcieloaaGreatDoor
open Tryz
section
open Go.RowKit
open Go.Maps (Keyed IsMap Tidy)
def zdU (x:World) (lo2:Nat) (rv:Value) (a b:Nat):Prop:=lo2≤a∧b≤x.heap.size∧∀ k,a≤k→k<b→rv.ownBlock≠some k
theorem zaV.to {w:World} {R R':Nat→Nat→Prop} {p:AtP} (h:zaV w R p) (hR:∀ a b,R a b→R' a b):zaV w R' p:=by
 obtain ⟨h1,⟨a2,b2,r2,h2⟩,⟨a3,b3,r3,h3⟩,⟨a4,b4,r4,h4⟩,⟨a5,b5,r5,h5⟩,h6,h7,h8,h9⟩:=h
 exact ⟨h1,⟨a2,b2,hR _ _ r2,h2⟩,⟨a3,b3,hR _ _ r3,h3⟩,⟨a4,b4,hR _ _ r4,h4⟩,⟨a5,b5,hR _ _ r5,h5⟩,h6,h7,h8,h9⟩
theorem zaV.turned {w w':World} {lo2 r:Nat} {rv:Value} {p:AtP} (h:zaV w (zdU w lo2 rv) p) (ht:zaF (zl1 r rv) w w') (hr:r<lo2):zaV w' (zdU w lo2 rv) p :=
 h.keep fun a b hR q h1 h2=>ht.cell (Nat.lt_of_lt_of_le h2 hR.2.1) (fun hF=>by
  rcases hF with e | e
  ·have:=hR.1;omega
  ·exact hR.2.2 q.block h1 h2 e)
theorem zdU.wide {x y:World} {lo2:Nat} {rv rv':Value} {a b:Nat} (h:zdU x lo2 rv a b) (hz:x.heap.size≤y.heap.size) (hv:rv'.ownBlock=rv.ownBlock∨∀ k,rv'.ownBlock=some k→x.heap.size≤k):zdU y lo2 rv' a b :=
 ⟨h.1,Nat.le_trans h.2.1 hz,fun k h1 h2 e=>by
  rcases hv with hv | hv
  ·exact h.2.2 k h1 h2 (by rw [← hv];exact e)
  ·have h3:=hv k e;have:=h.2.1;omega⟩
def cntK (K:Int) (l:List RawP):Nat:=(l.filter (fun x=>decide (x.k=K))).length
theorem zyw (K:Int) (l:List RawP):cntK K l≤l.length:=List.length_filter_le _ _
theorem ztS {l:List RawP} {k:Nat} {x:RawP} (h:l[k]?=some x) (K:Int):cntK K (l.take (k+1))=cntK K (l.take k)+(if x.k=K then 1 else 0):=by
 unfold cntK
 rw [List.take_add_one,h,List.filter_append,List.length_append]
 by_cases hx:x.k=K <;> simp [hx]
def finO (l:List RawP) (o:Int):Int:=if 0<cntK 14 l∧(cntK 1 l=0∨cntK 2 l=0) then max o 2 else o
def zfR (w:World) (r m lo2:Nat) (rv:Value) (J:Ats→List Rw→Int→Prop) (e:Ending) (w':World):Prop :=
 ∃ out,e = .returned (.int .i64 out)∧∃ p' rv' rs',J p'.ats (rs'.map RawP.raw) out∧zaV w' (zdU w' lo2 rv') p'∧zaD w' lo2 176 5 rv' rs'∧Blk w' r 174 (rdgC p' rv' m)∧zaF (zl1 r rv) w w'
def zke (w:World) (J:Ats→List Rw→Int→Prop) (e:Ending) (w':World):Prop :=
 ∃ p rv rs out,e = .returned (.tuple #[.agg (attC p),rv,.int .i64 out])∧J p.ats (rs.map RawP.raw) out∧zaV w' (zdU w' w.heap.size rv) p∧zaD w' w.heap.size 176 5 rv rs∧Below w.heap.size w w'
structure RdG (w x:World) (r m lo2 cnt:Nat) (D:DataW Unit) (p:AtP) (rv:Value) (rs:List RawP):Prop where
 rd:Blk x r 174 (rdgC p rv m)
 mp:Came x m cnt D
 at_:zaV x (zdU x lo2 rv) p
 ow:zaD x lo2 176 5 rv rs
 res:Blk x w.heap.size 35 zAtt
 bl:Below w.heap.size w x
 hlo:lo2≤x.heap.size
 hr:r<lo2
 hm:m<r
 hq:w.heap.size<m
section
variable {w x y:World} {r m lo2 cnt:Nat} {D:DataW Unit} {p:AtP} {rv:Value} {rs:List RawP}
theorem RdG.on (h:RdG w x r m lo2 cnt D p rv rs) (hb:Below x.heap.size x y):RdG w y r m lo2 cnt D p rv rs :=
 ⟨h.rd.over hb,h.mp.kept (zaQ hb none) (by simp),(h.at_.below hb (fun a b hR=>hR.2.1)).to (fun a b hR=>hR.wide hb.size (.inl rfl)),h.ow.over hb,h.res.over hb,zaa h.bl hb lr,Nat.le_trans h.hlo hb.size,h.hr,h.hm,h.hq⟩
theorem RdG.fresh (h:RdG w x r m lo2 cnt D p rv rs) {g:Nat} {ob:Obj} (hg:(x.alloc ob).grownBy y (some g)) (hn:x.heap.size≤g):RdG w y r m lo2 cnt D p rv rs :=
 h.on (((Below.refl _ _).alloc lr _).grown hg (by simp) (fun k hk=>by injection hk;omega))
theorem RdG.c25 (h:RdG w x r m lo2 cnt D p rv rs):x.cell? ⟨r,25,none⟩=some (.map (some m)):=zwB h.rd h.at_.ob
theorem RdG.rb (h:RdG w x r m lo2 cnt D p rv rs):∀ b,rv.ownBlock=some b→lo2≤b∧b<x.heap.size:=fun b hb=>h.ow.lt b (.inl hb)
theorem RdG.map (h:RdG w x r m lo2 cnt D p rv rs) (hg:x.grownBy y (some m)) {cnt':Nat} {D':DataW Unit} (hm':Came y m cnt' D'):RdG w y r m lo2 cnt' D' p rv rs:=by
 have h1:=h.hm
 have h2:=h.hr
 have h3:=h.hq
 exact ⟨h.rd.grown hg (by intro e;injection e;omega),hm',(h.at_.grown hg (fun a b hR=>⟨hR.2.1,.inl (by have:=hR.1;omega)⟩)).to (fun a b hR=>hR.wide hg.size (.inl rfl)),h.ow.grown hg (fun b hb e=>by injection e with e;have:=(h.ow.lt b hb).1;omega),h.res.grown hg (by intro e;injection e;omega),h.bl.grown hg h.bl.size (fun q hq=>by injection hq;omega),Nat.le_trans h.hlo hg.size,h.hr,h.hm,h.hq⟩
end
set_option maxRecDepth 20000 in
set_option maxHeartbeats 8000000 in
theorem znZ (w:World) (lo hi:Nat) (A:Option Addr) (n c:Nat) (l:List RawP) (h:zbi w lo hi A n l) (hh:hi≤w.heap.size) (hn:n≤100000) (hwf:∀ x∈l,(Lit.int .i64 x.k).wf=true)
  (I:Nat→Ats→List Rw→Int→Prop) (h0:I 0 zeo [] 0)
  (HN:∀ (j:Nat) (x:RawP),l[j]?=some x→∀ (wr:World) (r m lo2 cnt:Nat) (D:DataW Unit) (p:AtP) (rv:Value) (rs:List RawP) (o:Int),I j p.ats (rs.map RawP.raw) o→Below w.heap.size w wr→Blk wr r 174 (rdgC p rv m)→Came wr m cnt D→D.atKey (.int .i64 x.k) (.lit (.int .i64 0)) = .lit (.int .i64 ((cntK x.k (l.take j):Nat):Int))→zaV wr (zdU wr lo2 rv) p→zaD wr lo2 176 5 rv rs→rs.length≤j→lo2≤wr.heap.size→r<lo2→w.heap.size≤r →
   Calls prog 114 #[.pointer (some ⟨r,0,none⟩),.agg (rawC x)] wr (zfR wr r m lo2 rv (fun a l' out=>I (j+1) a l' (max o out)∧l'.length≤j+1))) :
  Calls prog 81 #[.slice A n c] w (zke w (fun a l' out=>∃ o,I n a l' o∧out=finO l o)):=by
 have H:=hD h
 have HXL:=hD h.len
 have HWF:=hD hwf
 have HNN:=hD HN
 have H00:=hD h0
 have hmm:=@run_makeMap prog
 have RES:Hid (Blk (w.alloc (.cells zAtt 35)) w.heap.size 35 zAtt):=hD (Blk.new w _ _)
 have W0:Hid (Below w.heap.size w (w.alloc (.cells zAtt 35))):=hD ((Below.refl _ _).alloc lr _)
 have hz0:(w.alloc (.cells zAtt 35)).heap.size=w.heap.size+1:=by simp
 clear h hwf HN h0
 go_enter func81,ntmps81
 go_wp2_with fail
 generalize hw0:w.alloc (.cells zAtt 35)=w0 at *
 clear hw0
 refine (zpv w0).mono ?_
 rintro e w1 ⟨rfl,hb1⟩
 have RES1:=hD (RES.o.over hb1)
 have W1:=hD (zaa W0.o hb1 (by omega))
 have hz1:w.heap.size+1≤w1.heap.size:=by have:=hb1.size;omega
 have NEWR:Hid (Blk ((w1.alloc (.map #[] 0)).alloc (.cells zRdg 174)) (w1.heap.size+1) 174 zRdg):=hD (by have h:=Blk.new (w1.alloc (.map #[] 0)) 174 zRdg;rw [show (w1.alloc (.map #[] 0)).heap.size=w1.heap.size+1 by simp] at h;exact h)
 clear hb1 RES W0 hz0
 go_wp2_with (first
  | (with_reducible refine zhZ rfl (.tmp 9) (.tmp 10) rfl w1.heap.size rfl rfl ?_)
  | (refine zf2 rfl (.tmp 5) (.tmp 11) rfl (w1.heap.size+1) rfl zgg w1.heap.size rfl rfl NEWR.o rfl ?_;intro w2 hb2 hg2;have K2:=hD hb2;have G2:=hD hg2;clear hb2 hg2;refine Hid.o ?_))
 refine hD ?_
 have hz2:w1.heap.size+2≤w2.heap.size:=by have h:=G2.o.size;simp at h;omega
 have S2:Hid (RdG w w2 (w1.heap.size+1) w1.heap.size (w1.heap.size+2) 0 (.map []) zgg (.slice none 0 0) []):=hD ⟨K2.o,((World.ownsMap_made w1 prog 3 (plainElem prog 3)).alloc _).kept G2.o (by intro e;injection e;omega),(zjc w2 (w1.heap.size+2) w2.heap.size).r ⟨lr,lr,fun k _ _ e=>by cases e⟩,zaD.nil _ _ _ _,((RES1.o.alloc _).alloc _).grown G2.o (by intro e;injection e;omega),((W1.o.alloc (by omega) _).alloc (by simp;omega) _).grown G2.o (by simp;omega) (fun k hk=>by injection hk;omega),hz2,by omega,by omega,by omega⟩
 obtain ⟨r,hr⟩:∃ r,w1.heap.size+1=r:=⟨_,rfl⟩
 obtain ⟨m,hm⟩:∃ m,w1.heap.size=m:=⟨_,rfl⟩
 obtain ⟨lo2,hl2⟩:∃ lo2,w1.heap.size+2=lo2:=⟨_,rfl⟩
 rw [hr,hl2,hm] at S2
 rw [hr]
 clear K2 G2 NEWR RES1 W1 hz2 hr hm hl2 hmm
 go_wp2_with fail
 go_loopw [6,14] (fun v i wr=>∃ (k cnt:Nat) (D:DataW Unit) (p:AtP) (rv:Value) (rs:List RawP) (o:Int),k≤n∧v = .int .i64 o∧i = .int .i64 k∧cnt≤k∧rs.length≤k∧(∀ K:Int,D.atKey (.int .i64 K) (.lit (.int .i64 0)) = .lit (.int .i64 ((cntK K (l.take k):Nat):Int)))∧I k p.ats (rs.map RawP.raw) o∧RdG w wr r m lo2 cnt D p rv rs) (fun _ i _=>n-(intOf i).toNat)
 case atStart=>exact ⟨0,0,.map [],zgg,.slice none 0 0,[],0,Nat.zero_le _,rfl,rfl,lr,lr,(fun K=>rfl),H00.o,S2.o⟩
 case round =>
  obtain ⟨k,cnt,D,p,rv,rs,o,hk,rfl,rfl,hcnt,hrl,hcts,hI,hst⟩:=hrel
  have HCT:=hD hcts
  have HI:=hD hI
  have ST:=hD hst
  clear hcts hI hst
  by_cases hlt:k<n
  ·have Yr:=hD (H.o.below (ST.o.bl.mono hh))
   obtain ⟨b,o9,x,rfl,hb1,hb2,hx,hat,hv,hnc⟩:=Yr.o.at_ hlt
   have HX:=hD hx
   have HAT:=hD hat
   have HWX:=HWF.o x (List.mem_of_getElem? hx)
   have NEW:=hD (Blk.new wr 176 #[.int .i64 0,.int .i64 0,.slice none 0 0])
   have HCX:=hD (HCT.o x.k)
   clear hx hat hv hnc
   go_wp2_with (first
    | ((with_reducible refine zcj rfl (.tmp 16) rfl (b:=b) (i:=o9+k*3) rfl HAT.o ?_))
    | (refine zcE rfl (.tmp 8) (.tmp 17) rfl wr.heap.size rfl x rfl NEW.o rfl ?_;intro w3 hb3 hg3;have B3:=hD hb3;have S3:=hD (ST.o.fresh hg3 lr);clear hb3 hg3;refine Hid.o ?_))
   refine hD ?_
   clear NEW Yr HAT
   have hcall:=HNN.o k x HX.o w3 r m lo2 cnt D p rv rs o HI.o S3.o.bl S3.o.rd S3.o.mp HCX.o S3.o.at_ S3.o.ow hrl S3.o.hlo S3.o.hr (by have:=S3.o.hq;have:=S3.o.hm;omega)
   have HC:=hD hcall
   have hB3:r<wr.heap.size:=Nat.lt_of_lt_of_le ST.o.hr ST.o.hlo
   have HRB:Hid (∀ b,rv.ownBlock=some b→lo2≤b∧b<wr.heap.size):=hD ST.o.rb
   clear hcall ST HI
   generalize wr.heap.size=q8 at *
   go_wp2_with (with_reducible refine zb0 rfl (.tmp 8) rfl q8 rfl B3.o ?_)
   refine HC.o.mono ?_
   rintro e w4 ⟨out,rfl,p',rv',rs',⟨hI4,hrl4⟩,hat4,how4,hrd4,ht4⟩
   have hmr:=S3.o.hm
   have hrl2:=S3.o.hr
   have hqm:=S3.o.hq
   have nF:∀ g,g≠r→(∀ b,rv.ownBlock=some b→b≠g)→¬ zl1 r rv g:=fun g h1 h2 hF=>by
    rcases hF with e | e
    ·exact h1 e
    ·exact h2 g e rfl
   have nB:∀ g,g<lo2→∀ b,rv.ownBlock=some b→b≠g:=fun g hg b hb e=>by have:=(HRB.o b hb).1;omega
   have S4:Hid (RdG w w4 r m lo2 cnt D p' rv' rs'):=hD ⟨hrd4,ht4.ownsMap S3.o.mp (nF m (by omega) (nB m (by omega))),hat4,how4,ht4.blk S3.o.res (nF _ (by omega) (nB _ (by omega))),(S3.o.bl).trans (ht4.to_below (B:=w.heap.size) S3.o.bl.size (fun i hi=>by
    rcases hi with e | e
    ·omega
    ·have:=(HRB.o i e).1;omega)),Nat.le_trans S3.o.hlo ht4.size,S3.o.hr,S3.o.hm,S3.o.hq⟩
   have B4:Hid (Blk w4 q8 176 (rawC x)):=hD (ht4.blk B3.o (nF q8 (by omega) (fun b hb e=>by have:=(HRB.o b hb).2;omega)))
   have HI4:=hD hI4
   have k25:=S4.o.c25
   have k1:w4.cell? ⟨q8,1,none⟩=some (.int .i64 x.k):=B4.o.cell 1
   clear hI4 hat4 how4 hrd4 ht4 S3 nF nB HRB
   have HK9:=hD (key9 HWX)
   obtain ⟨C,hC⟩:∃ C,cntK x.k (l.take k)=C:=⟨_,rfl⟩
   rw [hC] at HCX
   have HCC:=hD hC
   have hCk:C≤k:=by have h1:=zyw x.k (l.take k);rw [List.length_take] at h1;omega
   clear hC
   have hw1:(Lit.int .i64 ((C:Int)+1)).wf=true:=WalkArith.wf_i64 (by omega)
   go_wp2_with (first
    | (at_lookup;refine wpList_lookup_own_int _ rfl (.tmp 23) (.tmp 25) 172 rfl 3 3 .i64 zgj underlying172 underlying3 (zkf _) m cnt D rfl S4.o.mp _ (.int .i64 x.k) rfl HK9.o ?_;intro c0 hat9 hwc;(obtain rfl:(C:Int)=c0:=(Lit.int.inj (DataW.lit.inj (HCX.o.symm.trans hat9))).2);clear hat9 hwc)
    | (at_mapUpdate;refine wpList_mapUpdate_own _ rfl (.tmp 23) (.tmp 25) (.tmp 27) 172 rfl 3 3 zgj underlying172 (plainElem prog 3) m cnt D rfl S4.o.mp (by unfold maxLen;omega) _ _ (.int .i64 x.k) rfl rfl HK9.o (.lit (.int .i64 ((C:Int)+1))) [] (plainElem_int underlying3 hw1) ?_;intro w5 hown5 hg5;have M5:=hD hown5;have G5:=hD hg5;clear hown5 hg5))
   have S5:=hD (S4.o.map G5.o M5.o)
   have HCT5:Hid (∀ K:Int,(D.put (.int .i64 x.k) (.lit (.int .i64 ((C:Int)+1)))).atKey (.int .i64 K) (.lit (.int .i64 0)) = .lit (.int .i64 ((cntK K (l.take (k+1)):Nat):Int))):=hD (fun K=>by
    rw [ztS HX.o K]
    by_cases hK:x.k=K
    ·subst hK
     rw [Maps.atKey_put_same S4.o.mp.isMap (show WideAt.IsKeyLit (.int .i64 x.k) from trivial),if_pos rfl,HCC.o]
     rfl
    ·rw [Maps.atKey_put_other (by intro e;injection e with _ e;exact hK e.symm),if_neg hK,HCT.o K]
     rfl)
   clear S4 M5 G5 B4 k25 k1
   go_roundw
   case rel=>exact ⟨k+1,cnt+1,_,p',rv',rs',max o out,by omega,rfl,by go_num,by omega,by rw [List.length_map] at hrl4;exact hrl4,HCT5.o,HI4.o,S5.o⟩
   case measure=>simp [intOf];omega
  ·obtain rfl:k=n:=by omega
   have HTK:Hid (l.take k=l):=hD (List.take_of_length_le (by rw [HXL.o];exact lr))
   have MP:=hD ST.o.mp
   have k25:=ST.o.c25
   have hC14:=HCT.o 14
   have hC1:=HCT.o 1
   have hC2:=HCT.o 2
   rw [HTK.o] at hC14 hC1 hC2
   obtain ⟨c14,h14⟩:∃ q,cntK 14 l=q:=⟨_,rfl⟩
   obtain ⟨c1,h1⟩:∃ q,cntK 1 l=q:=⟨_,rfl⟩
   obtain ⟨c2,h2⟩:∃ q,cntK 2 l=q:=⟨_,rfl⟩
   rw [h14] at hC14
   rw [h1] at hC1
   rw [h2] at hC2
   have A14:=hD hC14
   have A1:=hD hC1
   have A2:=hD hC2
   have HFO:Hid (∀ o:Int,finO l o=if 0<c14∧(c1=0∨c2=0) then max o 2 else o):=hD (fun o=>by unfold finO;rw [h14,h1,h2])
   have HK14:Hid (keyOf prog 3 (.int .i64 14)=some (.int .i64 14)):=hD (key9 (by decide))
   clear hC14 hC1 hC2 h14 h1 h2 HCT
   by_cases g14:0<c14
   ·have i14:(0:Int)<(c14:Int):=by omega
    by_cases g1:c1=0
    ·subst g1
     go_wp2_with (first
      | (at_lookup;refine wpList_lookup_own_int _ rfl (.tmp 30) _ 172 rfl 3 3 .i64 zgj underlying172 underlying3 (zkf _) m cnt D rfl MP.o _ (.int .i64 14) rfl HK14.o ?_;intro c0 hat9 hwc;(obtain rfl:(c14:Int)=c0:=(Lit.int.inj (DataW.lit.inj (A14.o.symm.trans hat9))).2);clear hat9 hwc)
      | ((with_reducible refine zac ?_ (za0 (.tmp 35) (.const (.int .i64 1)) rfl rfl rfl MP.o (by decide) A1.o) ?_);(· rfl))
      | ((with_reducible refine zac ?_ (za0 (.tmp 40) (.const (.int .i64 2)) rfl rfl rfl MP.o (by decide) A2.o) ?_);(· rfl)))
     clear k25
     refine wp_region_held_drew (S:=fun x=>Blk x r 174 (rdgC p rv m)∧zaV x (zdU wr lo2 rv) p∧zaD x lo2 176 5 rv rs∧Below w.heap.size w x) (by kernel_rfl) ⟨ST.o.rd.drew,ST.o.at_.keep (fun _ _ _ _ _ _=>rfl),⟨ST.o.ow.row,ST.o.ow.val,ST.o.ow.ap,ST.o.ow.vr⟩,zaj ST.o.bl⟩ (fun hHeld=>?_)
     have HOB:=hHeld.2.1.ob
     have hmr:=ST.o.hm
     have hrl2:=ST.o.hr
     have hqm:=ST.o.hq
     refine rgT 0 ?_
     refine rgV 1 (.agg (attC p)) ?_ ?_
     ·(intro w' hSw;exact zcu (.tmp 47) rfl r 0 rfl (zi3 hSw.1) HOB)
     refine rgT 2 ?_
     refine rgV 3 rv ?_ ?_
     ·(intro w' hSw;exact zct (.tmp 49) rfl rfl (zkt hSw.1 HOB))
     refine rgT 4 ?_
     have HS5:Blk (wr.drew.setCells w.heap.size 0 (attL p)) r 174 (rdgC p rv m)∧zaV (wr.drew.setCells w.heap.size 0 (attL p)) (zdU wr lo2 rv) p∧zaD (wr.drew.setCells w.heap.size 0 (attL p)) lo2 176 5 rv rs∧Below w.heap.size w (wr.drew.setCells w.heap.size 0 (attL p)):=by
      have hg:=zai (g:=w.heap.size) (attL p) 0 wr.drew wr.drew (zad _ _)
      exact ⟨hHeld.1.grown hg (by intro e;injection e;omega),hHeld.2.1.grown hg (fun a b hR=>⟨hR.2.1,.inl (by have:=hR.1;omega)⟩),hHeld.2.2.1.grown hg (fun b hb e=>by injection e with e;have:=(hHeld.2.2.1.lt b hb).1;omega),hHeld.2.2.2.grown hg (ST.o.bl.size) (fun q hq=>by injection hq;omega)⟩
     refine zau (i:=5) rfl (by kernel_rfl) (by rfl) (zbC (.tmp 2) (.tmp 48) rfl w.heap.size 0 rfl rfl HOB (zcL ST.o.res.drew)) HS5 (fun hHeld=>?_)
     refine rgN ?_
     refine rgT 6 ?_
     refine rgT 7 ?_
     have K5:=hD (zcp ST.o.res.drew HOB)
     have hz5:wr.heap.size≤(wr.drew.setCells w.heap.size 0 (attL p)).heap.size:=(zai (g:=w.heap.size) (attL p) 0 wr.drew wr.drew (zad _ _)).size
     have HH:=hD hHeld
     have HBL:=hD ST.o.bl.size
     clear hHeld HS5
     generalize wr.drew.setCells w.heap.size 0 (attL p)=w5 at *
     refine wpAnyH_done (by kernel_rfl) ?_ _
     go_wp2
     refine zib (c:=2) (q:=3) (s:=4) rfl rfl rfl rfl K5.o HOB rfl ?_
     exact ⟨p,rv,rs,_,rfl,⟨o,HI.o,by rw [HFO.o];rw [if_pos (by refine ⟨g14,?_⟩;simp)]⟩,HH.o.2.1.to (fun a b hR=>by have h7:=hR.wide hz5 (.inl rfl);exact ⟨by have:=hR.1;omega,h7.2⟩),HH.o.2.2.1.more (by omega),HH.o.2.2.2⟩
    ·have e1:((c1:Int)==0)=false:=beq_eq_false_iff_ne.2 (by omega)
     by_cases g2:c2=0
     ·subst g2
      go_wp2_with (first
       | (at_lookup;refine wpList_lookup_own_int _ rfl (.tmp 30) _ 172 rfl 3 3 .i64 zgj underlying172 underlying3 (zkf _) m cnt D rfl MP.o _ (.int .i64 14) rfl HK14.o ?_;intro c0 hat9 hwc;(obtain rfl:(c14:Int)=c0:=(Lit.int.inj (DataW.lit.inj (A14.o.symm.trans hat9))).2);clear hat9 hwc)
       | ((with_reducible refine zac ?_ (za0 (.tmp 35) (.const (.int .i64 1)) rfl rfl rfl MP.o (by decide) A1.o) ?_);(· rfl))
       | ((with_reducible refine zac ?_ (za0 (.tmp 40) (.const (.int .i64 2)) rfl rfl rfl MP.o (by decide) A2.o) ?_);(· rfl)))
      clear k25
      refine wp_region_held_drew (S:=fun x=>Blk x r 174 (rdgC p rv m)∧zaV x (zdU wr lo2 rv) p∧zaD x lo2 176 5 rv rs∧Below w.heap.size w x) (by kernel_rfl) ⟨ST.o.rd.drew,ST.o.at_.keep (fun _ _ _ _ _ _=>rfl),⟨ST.o.ow.row,ST.o.ow.val,ST.o.ow.ap,ST.o.ow.vr⟩,zaj ST.o.bl⟩ (fun hHeld=>?_)
      have HOB:=hHeld.2.1.ob
      have hmr:=ST.o.hm
      have hrl2:=ST.o.hr
      have hqm:=ST.o.hq
      refine rgT 0 ?_
      refine rgV 1 (.agg (attC p)) ?_ ?_
      ·(intro w' hSw;exact zcu (.tmp 47) rfl r 0 rfl (zi3 hSw.1) HOB)
      refine rgT 2 ?_
      refine rgV 3 rv ?_ ?_
      ·(intro w' hSw;exact zct (.tmp 49) rfl rfl (zkt hSw.1 HOB))
      refine rgT 4 ?_
      have HS5:Blk (wr.drew.setCells w.heap.size 0 (attL p)) r 174 (rdgC p rv m)∧zaV (wr.drew.setCells w.heap.size 0 (attL p)) (zdU wr lo2 rv) p∧zaD (wr.drew.setCells w.heap.size 0 (attL p)) lo2 176 5 rv rs∧Below w.heap.size w (wr.drew.setCells w.heap.size 0 (attL p)):=by
       have hg:=zai (g:=w.heap.size) (attL p) 0 wr.drew wr.drew (zad _ _)
       exact ⟨hHeld.1.grown hg (by intro e;injection e;omega),hHeld.2.1.grown hg (fun a b hR=>⟨hR.2.1,.inl (by have:=hR.1;omega)⟩),hHeld.2.2.1.grown hg (fun b hb e=>by injection e with e;have:=(hHeld.2.2.1.lt b hb).1;omega),hHeld.2.2.2.grown hg (ST.o.bl.size) (fun q hq=>by injection hq;omega)⟩
      refine zau (i:=5) rfl (by kernel_rfl) (by rfl) (zbC (.tmp 2) (.tmp 48) rfl w.heap.size 0 rfl rfl HOB (zcL ST.o.res.drew)) HS5 (fun hHeld=>?_)
      refine rgN ?_
      refine rgT 6 ?_
      refine rgT 7 ?_
      have K5:=hD (zcp ST.o.res.drew HOB)
      have hz5:wr.heap.size≤(wr.drew.setCells w.heap.size 0 (attL p)).heap.size:=(zai (g:=w.heap.size) (attL p) 0 wr.drew wr.drew (zad _ _)).size
      have HH:=hD hHeld
      have HBL:=hD ST.o.bl.size
      clear hHeld HS5
      generalize wr.drew.setCells w.heap.size 0 (attL p)=w5 at *
      refine wpAnyH_done (by kernel_rfl) ?_ _
      go_wp2
      refine zib (c:=2) (q:=3) (s:=4) rfl rfl rfl rfl K5.o HOB rfl ?_
      exact ⟨p,rv,rs,_,rfl,⟨o,HI.o,by rw [HFO.o];rw [if_pos (by refine ⟨g14,?_⟩;simp)]⟩,HH.o.2.1.to (fun a b hR=>by have h7:=hR.wide hz5 (.inl rfl);exact ⟨by have:=hR.1;omega,h7.2⟩),HH.o.2.2.1.more (by omega),HH.o.2.2.2⟩
     ·have e2:((c2:Int)==0)=false:=beq_eq_false_iff_ne.2 (by omega)
      go_wp2_with (first
       | (at_lookup;refine wpList_lookup_own_int _ rfl (.tmp 30) _ 172 rfl 3 3 .i64 zgj underlying172 underlying3 (zkf _) m cnt D rfl MP.o _ (.int .i64 14) rfl HK14.o ?_;intro c0 hat9 hwc;(obtain rfl:(c14:Int)=c0:=(Lit.int.inj (DataW.lit.inj (A14.o.symm.trans hat9))).2);clear hat9 hwc)
       | ((with_reducible refine zac ?_ (za0 (.tmp 35) (.const (.int .i64 1)) rfl rfl rfl MP.o (by decide) A1.o) ?_);(· rfl))
       | ((with_reducible refine zac ?_ (za0 (.tmp 40) (.const (.int .i64 2)) rfl rfl rfl MP.o (by decide) A2.o) ?_);(· rfl)))
      clear k25
      refine wp_region_held_drew (S:=fun x=>Blk x r 174 (rdgC p rv m)∧zaV x (zdU wr lo2 rv) p∧zaD x lo2 176 5 rv rs∧Below w.heap.size w x) (by kernel_rfl) ⟨ST.o.rd.drew,ST.o.at_.keep (fun _ _ _ _ _ _=>rfl),⟨ST.o.ow.row,ST.o.ow.val,ST.o.ow.ap,ST.o.ow.vr⟩,zaj ST.o.bl⟩ (fun hHeld=>?_)
      have HOB:=hHeld.2.1.ob
      have hmr:=ST.o.hm
      have hrl2:=ST.o.hr
      have hqm:=ST.o.hq
      refine rgT 0 ?_
      refine rgV 1 (.agg (attC p)) ?_ ?_
      ·(intro w' hSw;exact zcu (.tmp 47) rfl r 0 rfl (zi3 hSw.1) HOB)
      refine rgT 2 ?_
      refine rgV 3 rv ?_ ?_
      ·(intro w' hSw;exact zct (.tmp 49) rfl rfl (zkt hSw.1 HOB))
      refine rgT 4 ?_
      have HS5:Blk (wr.drew.setCells w.heap.size 0 (attL p)) r 174 (rdgC p rv m)∧zaV (wr.drew.setCells w.heap.size 0 (attL p)) (zdU wr lo2 rv) p∧zaD (wr.drew.setCells w.heap.size 0 (attL p)) lo2 176 5 rv rs∧Below w.heap.size w (wr.drew.setCells w.heap.size 0 (attL p)):=by
       have hg:=zai (g:=w.heap.size) (attL p) 0 wr.drew wr.drew (zad _ _)
       exact ⟨hHeld.1.grown hg (by intro e;injection e;omega),hHeld.2.1.grown hg (fun a b hR=>⟨hR.2.1,.inl (by have:=hR.1;omega)⟩),hHeld.2.2.1.grown hg (fun b hb e=>by injection e with e;have:=(hHeld.2.2.1.lt b hb).1;omega),hHeld.2.2.2.grown hg (ST.o.bl.size) (fun q hq=>by injection hq;omega)⟩
      refine zau (i:=5) rfl (by kernel_rfl) (by rfl) (zbC (.tmp 2) (.tmp 48) rfl w.heap.size 0 rfl rfl HOB (zcL ST.o.res.drew)) HS5 (fun hHeld=>?_)
      refine rgN ?_
      refine rgT 6 ?_
      refine rgT 7 ?_
      have K5:=hD (zcp ST.o.res.drew HOB)
      have hz5:wr.heap.size≤(wr.drew.setCells w.heap.size 0 (attL p)).heap.size:=(zai (g:=w.heap.size) (attL p) 0 wr.drew wr.drew (zad _ _)).size
      have HH:=hD hHeld
      have HBL:=hD ST.o.bl.size
      clear hHeld HS5
      generalize wr.drew.setCells w.heap.size 0 (attL p)=w5 at *
      refine wpAnyH_done (by kernel_rfl) ?_ _
      go_wp2
      refine zib (c:=2) (q:=3) (s:=4) rfl rfl rfl rfl K5.o HOB rfl ?_
      exact ⟨p,rv,rs,_,rfl,⟨o,HI.o,by rw [HFO.o];rw [if_neg (by omega)]⟩,HH.o.2.1.to (fun a b hR=>by have h7:=hR.wide hz5 (.inl rfl);exact ⟨by have:=hR.1;omega,h7.2⟩),HH.o.2.2.1.more (by omega),HH.o.2.2.2⟩
   ·have i14:¬ (0:Int)<(c14:Int):=by omega
    go_wp2_with (first
     | (at_lookup;refine wpList_lookup_own_int _ rfl (.tmp 30) _ 172 rfl 3 3 .i64 zgj underlying172 underlying3 (zkf _) m cnt D rfl MP.o _ (.int .i64 14) rfl HK14.o ?_;intro c0 hat9 hwc;(obtain rfl:(c14:Int)=c0:=(Lit.int.inj (DataW.lit.inj (A14.o.symm.trans hat9))).2);clear hat9 hwc)
     | ((with_reducible refine zac ?_ (za0 (.tmp 35) (.const (.int .i64 1)) rfl rfl rfl MP.o (by decide) A1.o) ?_);(· rfl))
     | ((with_reducible refine zac ?_ (za0 (.tmp 40) (.const (.int .i64 2)) rfl rfl rfl MP.o (by decide) A2.o) ?_);(· rfl)))
    clear k25
    refine wp_region_held_drew (S:=fun x=>Blk x r 174 (rdgC p rv m)∧zaV x (zdU wr lo2 rv) p∧zaD x lo2 176 5 rv rs∧Below w.heap.size w x) (by kernel_rfl) ⟨ST.o.rd.drew,ST.o.at_.keep (fun _ _ _ _ _ _=>rfl),⟨ST.o.ow.row,ST.o.ow.val,ST.o.ow.ap,ST.o.ow.vr⟩,zaj ST.o.bl⟩ (fun hHeld=>?_)
    have HOB:=hHeld.2.1.ob
    have hmr:=ST.o.hm
    have hrl2:=ST.o.hr
    have hqm:=ST.o.hq
    refine rgT 0 ?_
    refine rgV 1 (.agg (attC p)) ?_ ?_
    ·(intro w' hSw;exact zcu (.tmp 47) rfl r 0 rfl (zi3 hSw.1) HOB)
    refine rgT 2 ?_
    refine rgV 3 rv ?_ ?_
    ·(intro w' hSw;exact zct (.tmp 49) rfl rfl (zkt hSw.1 HOB))
    refine rgT 4 ?_
    have HS5:Blk (wr.drew.setCells w.heap.size 0 (attL p)) r 174 (rdgC p rv m)∧zaV (wr.drew.setCells w.heap.size 0 (attL p)) (zdU wr lo2 rv) p∧zaD (wr.drew.setCells w.heap.size 0 (attL p)) lo2 176 5 rv rs∧Below w.heap.size w (wr.drew.setCells w.heap.size 0 (attL p)):=by
     have hg:=zai (g:=w.heap.size) (attL p) 0 wr.drew wr.drew (zad _ _)
     exact ⟨hHeld.1.grown hg (by intro e;injection e;omega),hHeld.2.1.grown hg (fun a b hR=>⟨hR.2.1,.inl (by have:=hR.1;omega)⟩),hHeld.2.2.1.grown hg (fun b hb e=>by injection e with e;have:=(hHeld.2.2.1.lt b hb).1;omega),hHeld.2.2.2.grown hg (ST.o.bl.size) (fun q hq=>by injection hq;omega)⟩
    refine zau (i:=5) rfl (by kernel_rfl) (by rfl) (zbC (.tmp 2) (.tmp 48) rfl w.heap.size 0 rfl rfl HOB (zcL ST.o.res.drew)) HS5 (fun hHeld=>?_)
    refine rgN ?_
    refine rgT 6 ?_
    refine rgT 7 ?_
    have K5:=hD (zcp ST.o.res.drew HOB)
    have hz5:wr.heap.size≤(wr.drew.setCells w.heap.size 0 (attL p)).heap.size:=(zai (g:=w.heap.size) (attL p) 0 wr.drew wr.drew (zad _ _)).size
    have HH:=hD hHeld
    have HBL:=hD ST.o.bl.size
    clear hHeld HS5
    generalize wr.drew.setCells w.heap.size 0 (attL p)=w5 at *
    refine wpAnyH_done (by kernel_rfl) ?_ _
    go_wp2
    refine zib (c:=2) (q:=3) (s:=4) rfl rfl rfl rfl K5.o HOB rfl ?_
    exact ⟨p,rv,rs,_,rfl,⟨o,HI.o,by rw [HFO.o];rw [if_neg (by omega)]⟩,HH.o.2.1.to (fun a b hR=>by have h7:=hR.wide hz5 (.inl rfl);exact ⟨by have:=hR.1;omega,h7.2⟩),HH.o.2.2.1.more (by omega),HH.o.2.2.2⟩
end
end Go.Proofs.YtplpglfjcieloaaGreatDoor
