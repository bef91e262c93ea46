/-
  What Read of package attr does with whatever attributes, one step after the other. No condition beyond what each step asks.
-/
import Derived.Test.YtjindligkhdddaaGreatDoorSDBG
set_option linter.unusedVariables false
set_option linter.unusedSimpArgs false
namespace Go.Proofs.YtjindligkhdddaaGreatDoor
section
open Go.RowKit
open Go.Maps (Keyed IsMap Tidy)
def zdN (x:World) (lo2:Nat) (rv:Value) (a b:Nat):Prop:=lo2≤a∧b≤x.heap.size∧∀ k,a≤k→k<b→rv.ownBlock≠some k
theorem zaV.to {w:World} {R R':Nat→Nat→Prop} {p:AtP} (h:zaV w R p) (hR:∀ a b,R a b→R' a b):zaV w R' p:=by
 obtain ⟨h1,⟨a2,b2,r2,h2⟩,⟨a3,b3,r3,h3⟩,⟨a4,b4,r4,h4⟩,⟨a5,b5,r5,h5⟩,h6,h7,h8,h9⟩:=h
 exact ⟨h1,⟨a2,b2,hR _ _ r2,h2⟩,⟨a3,b3,hR _ _ r3,h3⟩,⟨a4,b4,hR _ _ r4,h4⟩,⟨a5,b5,hR _ _ r5,h5⟩,h6,h7,h8,h9⟩
theorem zaV.turned {w w':World} {lo2 r:Nat} {rv:Value} {p:AtP} (h:zaV w (zdN w lo2 rv) p) (ht:zaB (zlC r rv) w w') (hr:r<lo2):zaV w' (zdN w lo2 rv) p :=
 h.keep fun a b hR q h1 h2=>ht.cell (Nat.lt_of_lt_of_le h2 hR.2.1) (fun hF=>by
  rcases hF with e | e
  ·have:=hR.1;omega
  ·exact hR.2.2 q.block h1 h2 e)
theorem zdN.wide {x y:World} {lo2:Nat} {rv rv':Value} {a b:Nat} (h:zdN x lo2 rv a b) (hz:x.heap.size≤y.heap.size) (hv:rv'.ownBlock=rv.ownBlock∨∀ k,rv'.ownBlock=some k→x.heap.size≤k):zdN y lo2 rv' a b :=
 ⟨h.1,Nat.le_trans h.2.1 hz,fun k h1 h2 e=>by
  rcases hv with hv | hv
  ·exact h.2.2 k h1 h2 (by rw [← hv];exact e)
  ·have h3:=hv k e;have:=h.2.1;omega⟩
def cntK (K:Int) (l:List RawP):Nat:=(l.filter (fun x=>decide (x.k=K))).length
theorem zyf (K:Int) (l:List RawP):cntK K l≤l.length:=List.length_filter_le _ _
theorem zty {l:List RawP} {k:Nat} {x:RawP} (h:l[k]?=some x) (K:Int):cntK K (l.take (k+1))=cntK K (l.take k)+(if x.k=K then 1 else 0):=by
 unfold cntK
 rw [List.take_add_one,h,List.filter_append,List.length_append]
 by_cases hx:x.k=K <;> simp [hx]
def finO (l:List RawP) (o:Int):Int:=if 0<cntK 14 l∧(cntK 1 l=0∨cntK 2 l=0) then max o 2 else o
def zhf (w:World) (r m lo2:Nat) (rv:Value) (J:Ats→List Rw→Int→Prop) (e:Ending) (w':World):Prop :=
 ∃ out,e = .returned (.int .i64 out)∧∃ p' rv' rs',J p'.ats (rs'.map RawP.raw) out∧zaV w' (zdN w' lo2 rv') p'∧zaD w' lo2 175 5 rv' rs'∧Blk w' r 191 (rdgC p' rv' m)∧zaB (zlC r rv) w w'
def zos (w:World) (J:Ats→List Rw→Int→Prop) (e:Ending) (w':World):Prop :=
 ∃ p rv rs out,e = .returned (.tuple #[.agg (attC p),rv,.int .i64 out])∧J p.ats (rs.map RawP.raw) out∧zaV w' (zdN w' w.heap.size rv) p∧zaD w' w.heap.size 175 5 rv rs∧Below w.heap.size w w'
structure RdG (w x:World) (r m lo2 cnt:Nat) (D:DataW Unit) (p:AtP) (rv:Value) (rs:List RawP):Prop where
 rd:Blk x r 191 (rdgC p rv m)
 mp:Came x m cnt D
 at_:zaV x (zdN x lo2 rv) p
 ow:zaD x lo2 175 5 rv rs
 res:Blk x w.heap.size 49 zAtt
 bl:Below w.heap.size w x
 hlo:lo2≤x.heap.size
 hr:r<lo2
 hm:m<r
 hq:w.heap.size<m
section
variable {w x y:World} {r m lo2 cnt:Nat} {D:DataW Unit} {p:AtP} {rv:Value} {rs:List RawP}
theorem RdG.on (h:RdG w x r m lo2 cnt D p rv rs) (hb:Below x.heap.size x y):RdG w y r m lo2 cnt D p rv rs :=
 ⟨h.rd.over hb,h.mp.kept (zaK hb none) (by simp),(h.at_.below hb (fun a b hR=>hR.2.1)).to (fun a b hR=>hR.wide hb.size (.inl rfl)),h.ow.over hb,h.res.over hb,zaa h.bl hb (Nat.le_refl _),Nat.le_trans h.hlo hb.size,h.hr,h.hm,h.hq⟩
theorem RdG.fresh (h:RdG w x r m lo2 cnt D p rv rs) {g:Nat} {ob:Obj} (hg:(x.alloc ob).grownBy y (some g)) (hn:x.heap.size≤g):RdG w y r m lo2 cnt D p rv rs :=
 h.on (((Below.refl _ _).alloc (Nat.le_refl _) _).grown hg (by simp) (fun k hk=>by injection hk;omega))
theorem RdG.c25 (h:RdG w x r m lo2 cnt D p rv rs):x.cell? ⟨r,25,none⟩=some (.map (some m)):=zwf h.rd h.at_.ob
theorem RdG.rb (h:RdG w x r m lo2 cnt D p rv rs):∀ b,rv.ownBlock=some b→lo2≤b∧b<x.heap.size:=fun b hb=>h.ow.lt b (.inl hb)
theorem RdG.map (h:RdG w x r m lo2 cnt D p rv rs) (hg:x.grownBy y (some m)) {cnt':Nat} {D':DataW Unit} (hm':Came y m cnt' D'):RdG w y r m lo2 cnt' D' p rv rs:=by
 have h1:=h.hm
 have h2:=h.hr
 have h3:=h.hq
 exact ⟨h.rd.grown hg (by intro e;injection e;omega),hm',(h.at_.grown hg (fun a b hR=>⟨hR.2.1,.inl (by have:=hR.1;omega)⟩)).to (fun a b hR=>hR.wide hg.size (.inl rfl)),h.ow.grown hg (fun b hb e=>by injection e with e;have:=(h.ow.lt b hb).1;omega),h.res.grown hg (by intro e;injection e;omega),h.bl.grown hg h.bl.size (fun q hq=>by injection hq;omega),Nat.le_trans h.hlo hg.size,h.hr,h.hm,h.hq⟩
end
set_option maxRecDepth 20000 in
set_option maxHeartbeats 8000000 in
theorem znA (w:World) (lo hi:Nat) (A:Option Addr) (n c:Nat) (l:List RawP) (h:zbV w lo hi A n l) (hh:hi≤w.heap.size) (hn:n≤100000) (hwf:∀ x∈l,(Lit.int .i64 x.k).wf=true)
  (I:Nat→Ats→List Rw→Int→Prop) (h0:I 0 zeV [] 0)
  (HN:∀ (j:Nat) (x:RawP),l[j]?=some x→∀ (wr:World) (r m lo2 cnt:Nat) (D:DataW Unit) (p:AtP) (rv:Value) (rs:List RawP) (o:Int),I j p.ats (rs.map RawP.raw) o→Below w.heap.size w wr→Blk wr r 191 (rdgC p rv m)→Came wr m cnt D→D.atKey (.int .i64 x.k) (.lit (.int .i64 0)) = .lit (.int .i64 ((cntK x.k (l.take j):Nat):Int))→zaV wr (zdN wr lo2 rv) p→zaD wr lo2 175 5 rv rs→rs.length≤j→lo2≤wr.heap.size→r<lo2→w.heap.size≤r →
   Calls Tryz.prog 110 #[.pointer (some ⟨r,0,none⟩),.agg (rawC x)] wr (zhf wr r m lo2 rv (fun a l' out=>I (j+1) a l' (max o out)∧l'.length≤j+1))) :
  Calls Tryz.prog 73 #[.slice A n c] w (zos w (fun a l' out=>∃ o,I n a l' o∧out=finO l o)):=by
 have H:=hide h
 have HXL:=hide h.len
 have HWF:=hide hwf
 have HNN:=hide HN
 have H00:=hide h0
 have hmm:=@run_makeMap Tryz.prog
 have RES:Hid (Blk (w.alloc (.cells zAtt 49)) w.heap.size 49 zAtt):=hide (Blk.new w _ _)
 have W0:Hid (Below w.heap.size w (w.alloc (.cells zAtt 49))):=hide ((Below.refl _ _).alloc (Nat.le_refl _) _)
 have hz0:(w.alloc (.cells zAtt 49)).heap.size=w.heap.size+1:=by simp
 clear h hwf HN h0
 go_enter Tryz.func73,Tryz.ntmps73
 go_wp2_with fail
 generalize hw0:w.alloc (.cells zAtt 49)=w0 at *
 clear hw0
 refine (zpc w0).mono ?_
 rintro e w1 ⟨rfl,hb1⟩
 have RES1:=hide (RES.out.over hb1)
 have W1:=hide (zaa W0.out hb1 (by omega))
 have hz1:w.heap.size+1≤w1.heap.size:=by have:=hb1.size;omega
 have NEWR:Hid (Blk ((w1.alloc (.map #[] 0)).alloc (.cells zRdg 191)) (w1.heap.size+1) 191 zRdg):=hide (by have h:=Blk.new (w1.alloc (.map #[] 0)) 191 zRdg;rw [show (w1.alloc (.map #[] 0)).heap.size=w1.heap.size+1 by simp] at h;exact h)
 clear hb1 RES W0 hz0
 go_wp2_with (first
  | (with_reducible refine zhL rfl (.tmp 9) (.tmp 10) rfl w1.heap.size rfl rfl ?_)
  | (refine zfK rfl (.tmp 5) (.tmp 11) rfl (w1.heap.size+1) rfl zf0 w1.heap.size rfl rfl NEWR.out rfl ?_;intro w2 hb2 hg2;have K2:=hide hb2;have G2:=hide hg2;clear hb2 hg2;refine Hid.out ?_))
 refine hide ?_
 have hz2:w1.heap.size+2≤w2.heap.size:=by have h:=G2.out.size;simp at h;omega
 have S2:Hid (RdG w w2 (w1.heap.size+1) w1.heap.size (w1.heap.size+2) 0 (.map []) zf0 (.slice none 0 0) []):=hide ⟨K2.out,((World.ownsMap_made w1 Tryz.prog 3 (plainElem Tryz.prog 3)).alloc _).kept G2.out (by intro e;injection e;omega),(ziT w2 (w1.heap.size+2) w2.heap.size).r ⟨Nat.le_refl _,Nat.le_refl _,fun k _ _ e=>by cases e⟩,zaD.nil _ _ _ _,((RES1.out.alloc _).alloc _).grown G2.out (by intro e;injection e;omega),((W1.out.alloc (by omega) _).alloc (by simp;omega) _).grown G2.out (by simp;omega) (fun k hk=>by injection hk;omega),hz2,by omega,by omega,by omega⟩
 obtain ⟨r,hr⟩:∃ r,w1.heap.size+1=r:=⟨_,rfl⟩
 obtain ⟨m,hm⟩:∃ m,w1.heap.size=m:=⟨_,rfl⟩
 obtain ⟨lo2,hl2⟩:∃ lo2,w1.heap.size+2=lo2:=⟨_,rfl⟩
 rw [hr,hl2,hm] at S2
 rw [hr]
 clear K2 G2 NEWR RES1 W1 hz2 hr hm hl2 hmm
 go_wp2_with fail
 go_loopw [6,14] (fun v i wr=>∃ (k cnt:Nat) (D:DataW Unit) (p:AtP) (rv:Value) (rs:List RawP) (o:Int),k≤n∧v = .int .i64 o∧i = .int .i64 k∧cnt≤k∧rs.length≤k∧(∀ K:Int,D.atKey (.int .i64 K) (.lit (.int .i64 0)) = .lit (.int .i64 ((cntK K (l.take k):Nat):Int)))∧I k p.ats (rs.map RawP.raw) o∧RdG w wr r m lo2 cnt D p rv rs) (fun _ i _=>n-(intOf i).toNat)
 case atStart=>exact ⟨0,0,.map [],zf0,.slice none 0 0,[],0,Nat.zero_le _,rfl,rfl,Nat.le_refl _,Nat.le_refl _,(fun K=>rfl),H00.out,S2.out⟩
 case round =>
  obtain ⟨k,cnt,D,p,rv,rs,o,hk,rfl,rfl,hcnt,hrl,hcts,hI,hst⟩:=hrel
  have HCT:=hide hcts
  have HI:=hide hI
  have ST:=hide hst
  clear hcts hI hst
  by_cases hlt:k<n
  ·have Yr:=hide (H.out.below (ST.out.bl.mono hh))
   obtain ⟨b,o9,x,rfl,hb1,hb2,hx,hat,hv,hnc⟩:=Yr.out.at_ hlt
   have HX:=hide hx
   have HAT:=hide hat
   have HWX:=HWF.out x (List.mem_of_getElem? hx)
   have NEW:=hide (Blk.new wr 175 #[.int .i64 0,.int .i64 0,.slice none 0 0])
   have HCX:=hide (HCT.out x.k)
   clear hx hat hv hnc
   go_wp2_with (first
    | ((with_reducible refine zcf rfl (.tmp 16) rfl (b:=b) (i:=o9+k*3) rfl HAT.out ?_))
    | (refine zcA rfl (.tmp 8) (.tmp 17) rfl wr.heap.size rfl x rfl NEW.out rfl ?_;intro w3 hb3 hg3;have B3:=hide hb3;have S3:=hide (ST.out.fresh hg3 (Nat.le_refl _));clear hb3 hg3;refine Hid.out ?_))
   refine hide ?_
   clear NEW Yr HAT
   have hcall:=HNN.out k x HX.out w3 r m lo2 cnt D p rv rs o HI.out S3.out.bl S3.out.rd S3.out.mp HCX.out S3.out.at_ S3.out.ow hrl S3.out.hlo S3.out.hr (by have:=S3.out.hq;have:=S3.out.hm;omega)
   have HC:=hide hcall
   have hB3:r<wr.heap.size:=Nat.lt_of_lt_of_le ST.out.hr ST.out.hlo
   have HRB:Hid (∀ b,rv.ownBlock=some b→lo2≤b∧b<wr.heap.size):=hide ST.out.rb
   clear hcall ST HI
   generalize wr.heap.size=q8 at *
   go_wp2_with (with_reducible refine zbY rfl (.tmp 8) rfl q8 rfl B3.out ?_)
   refine HC.out.mono ?_
   rintro e w4 ⟨out,rfl,p',rv',rs',⟨hI4,hrl4⟩,hat4,how4,hrd4,ht4⟩
   have hmr:=S3.out.hm
   have hrl2:=S3.out.hr
   have hqm:=S3.out.hq
   have nF:∀ g,g≠r→(∀ b,rv.ownBlock=some b→b≠g)→¬ zlC r rv g:=fun g h1 h2 hF=>by
    rcases hF with e | e
    ·exact h1 e
    ·exact h2 g e rfl
   have nB:∀ g,g<lo2→∀ b,rv.ownBlock=some b→b≠g:=fun g hg b hb e=>by have:=(HRB.out b hb).1;omega
   have S4:Hid (RdG w w4 r m lo2 cnt D p' rv' rs'):=hide ⟨hrd4,ht4.ownsMap S3.out.mp (nF m (by omega) (nB m (by omega))),hat4,how4,ht4.blk S3.out.res (nF _ (by omega) (nB _ (by omega))),(S3.out.bl).trans (ht4.to_below (B:=w.heap.size) S3.out.bl.size (fun i hi=>by
    rcases hi with e | e
    ·omega
    ·have:=(HRB.out i e).1;omega)),Nat.le_trans S3.out.hlo ht4.size,S3.out.hr,S3.out.hm,S3.out.hq⟩
   have B4:Hid (Blk w4 q8 175 (rawC x)):=hide (ht4.blk B3.out (nF q8 (by omega) (fun b hb e=>by have:=(HRB.out b hb).2;omega)))
   have HI4:=hide hI4
   have k25:=S4.out.c25
   have k1:w4.cell? ⟨q8,1,none⟩=some (.int .i64 x.k):=B4.out.cell 1
   clear hI4 hat4 how4 hrd4 ht4 S3 nF nB HRB
   have HK9:=hide (key9 HWX)
   obtain ⟨C,hC⟩:∃ C,cntK x.k (l.take k)=C:=⟨_,rfl⟩
   rw [hC] at HCX
   have HCC:=hide hC
   have hCk:C≤k:=by have h1:=zyf x.k (l.take k);rw [List.length_take] at h1;omega
   clear hC
   have hw1:(Lit.int .i64 ((C:Int)+1)).wf=true:=WalkArith.wf_i64 (by omega)
   go_wp2_with (first
    | (at_lookup;refine wpList_lookup_own_int _ rfl (.tmp 23) (.tmp 25) 189 rfl 3 3 .i64 zf3 Tryz.underlying189 Tryz.underlying3 (zjU _) m cnt D rfl S4.out.mp _ (.int .i64 x.k) rfl HK9.out ?_;intro c0 hat9 hwc;(obtain rfl:(C:Int)=c0:=(Lit.int.inj (DataW.lit.inj (HCX.out.symm.trans hat9))).2);clear hat9 hwc)
    | (at_mapUpdate;refine wpList_mapUpdate_own _ rfl (.tmp 23) (.tmp 25) (.tmp 27) 189 rfl 3 3 zf3 Tryz.underlying189 (plainElem Tryz.prog 3) m cnt D rfl S4.out.mp (by unfold maxLen;omega) _ _ (.int .i64 x.k) rfl rfl HK9.out (.lit (.int .i64 ((C:Int)+1))) [] (plainElem_int Tryz.underlying3 hw1) ?_;intro w5 hown5 hg5;have M5:=hide hown5;have G5:=hide hg5;clear hown5 hg5))
   have S5:=hide (S4.out.map G5.out M5.out)
   have HCT5:Hid (∀ K:Int,(D.put (.int .i64 x.k) (.lit (.int .i64 ((C:Int)+1)))).atKey (.int .i64 K) (.lit (.int .i64 0)) = .lit (.int .i64 ((cntK K (l.take (k+1)):Nat):Int))):=hide (fun K=>by
    rw [zty HX.out K]
    by_cases hK:x.k=K
    ·subst hK
     rw [Maps.atKey_put_same S4.out.mp.isMap (show WideAt.IsKeyLit (.int .i64 x.k) from trivial),if_pos rfl,HCC.out]
     rfl
    ·rw [Maps.atKey_put_other (by intro e;injection e with _ e;exact hK e.symm),if_neg hK,HCT.out K]
     rfl)
   clear S4 M5 G5 B4 k25 k1
   go_roundw
   case rel=>exact ⟨k+1,cnt+1,_,p',rv',rs',max o out,by omega,rfl,by go_num,by omega,by rw [List.length_map] at hrl4;exact hrl4,HCT5.out,HI4.out,S5.out⟩
   case measure=>simp [intOf];omega
  ·obtain rfl:k=n:=by omega
   have HTK:Hid (l.take k=l):=hide (List.take_of_length_le (by rw [HXL.out];exact Nat.le_refl _))
   have MP:=hide ST.out.mp
   have k25:=ST.out.c25
   have hC14:=HCT.out 14
   have hC1:=HCT.out 1
   have hC2:=HCT.out 2
   rw [HTK.out] at hC14 hC1 hC2
   obtain ⟨c14,h14⟩:∃ q,cntK 14 l=q:=⟨_,rfl⟩
   obtain ⟨c1,h1⟩:∃ q,cntK 1 l=q:=⟨_,rfl⟩
   obtain ⟨c2,h2⟩:∃ q,cntK 2 l=q:=⟨_,rfl⟩
   rw [h14] at hC14
   rw [h1] at hC1
   rw [h2] at hC2
   have A14:=hide hC14
   have A1:=hide hC1
   have A2:=hide hC2
   have HFO:Hid (∀ o:Int,finO l o=if 0<c14∧(c1=0∨c2=0) then max o 2 else o):=hide (fun o=>by unfold finO;rw [h14,h1,h2])
   have HK14:Hid (keyOf Tryz.prog 3 (.int .i64 14)=some (.int .i64 14)):=hide (key9 (by decide))
   clear hC14 hC1 hC2 h14 h1 h2 HCT
   by_cases g14:0<c14
   ·have i14:(0:Int)<(c14:Int):=by omega
    by_cases g1:c1=0
    ·subst g1
     go_wp2_with (first
      | (at_lookup;refine wpList_lookup_own_int _ rfl (.tmp 30) _ 189 rfl 3 3 .i64 zf3 Tryz.underlying189 Tryz.underlying3 (zjU _) m cnt D rfl MP.out _ (.int .i64 14) rfl HK14.out ?_;intro c0 hat9 hwc;(obtain rfl:(c14:Int)=c0:=(Lit.int.inj (DataW.lit.inj (A14.out.symm.trans hat9))).2);clear hat9 hwc)
      | ((with_reducible refine zad ?_ (zaZ (.tmp 35) (.const (.int .i64 1)) rfl rfl rfl MP.out (by decide) A1.out) ?_);(· rfl))
      | ((with_reducible refine zad ?_ (zaZ (.tmp 40) (.const (.int .i64 2)) rfl rfl rfl MP.out (by decide) A2.out) ?_);(· rfl)))
     clear k25
     refine wp_region_held_drew (S:=fun x=>Blk x r 191 (rdgC p rv m)∧zaV x (zdN wr lo2 rv) p∧zaD x lo2 175 5 rv rs∧Below w.heap.size w x) (by kernel_rfl) ⟨ST.out.rd.drew,ST.out.at_.keep (fun _ _ _ _ _ _=>rfl),⟨ST.out.ow.row,ST.out.ow.val,ST.out.ow.ap,ST.out.ow.vr⟩,zam ST.out.bl⟩ (fun hHeld=>?_)
     have HOB:=hHeld.2.1.ob
     have hmr:=ST.out.hm
     have hrl2:=ST.out.hr
     have hqm:=ST.out.hq
     refine rgT 0 ?_
     refine rgV 1 (.agg (attC p)) ?_ ?_
     ·(intro w' hSw;exact zcr (.tmp 47) rfl r 0 rfl (ziN hSw.1) HOB)
     refine rgT 2 ?_
     refine rgV 3 rv ?_ ?_
     ·(intro w' hSw;exact zcq (.tmp 49) rfl rfl (zj8 hSw.1 HOB))
     refine rgT 4 ?_
     have HS5:Blk (wr.drew.setCells w.heap.size 0 (attL p)) r 191 (rdgC p rv m)∧zaV (wr.drew.setCells w.heap.size 0 (attL p)) (zdN wr lo2 rv) p∧zaD (wr.drew.setCells w.heap.size 0 (attL p)) lo2 175 5 rv rs∧Below w.heap.size w (wr.drew.setCells w.heap.size 0 (attL p)):=by
      have hg:=zai (g:=w.heap.size) (attL p) 0 wr.drew wr.drew (zac _ _)
      exact ⟨hHeld.1.grown hg (by intro e;injection e;omega),hHeld.2.1.grown hg (fun a b hR=>⟨hR.2.1,.inl (by have:=hR.1;omega)⟩),hHeld.2.2.1.grown hg (fun b hb e=>by injection e with e;have:=(hHeld.2.2.1.lt b hb).1;omega),hHeld.2.2.2.grown hg (ST.out.bl.size) (fun q hq=>by injection hq;omega)⟩
     refine zau (i:=5) rfl (by kernel_rfl) (by rfl) (zbA (.tmp 2) (.tmp 48) rfl w.heap.size 0 rfl rfl HOB (zcH ST.out.res.drew)) HS5 (fun hHeld=>?_)
     refine rgN ?_
     refine rgT 6 ?_
     refine rgT 7 ?_
     have K5:=hide (zck ST.out.res.drew HOB)
     have hz5:wr.heap.size≤(wr.drew.setCells w.heap.size 0 (attL p)).heap.size:=(zai (g:=w.heap.size) (attL p) 0 wr.drew wr.drew (zac _ _)).size
     have HH:=hide hHeld
     have HBL:=hide ST.out.bl.size
     clear hHeld HS5
     generalize wr.drew.setCells w.heap.size 0 (attL p)=w5 at *
     refine wpAnyH_done (by kernel_rfl) ?_ _
     go_wp2
     refine zhW (c:=2) (q:=3) (s:=4) rfl rfl rfl rfl K5.out HOB rfl ?_
     exact ⟨p,rv,rs,_,rfl,⟨o,HI.out,by rw [HFO.out];rw [if_pos (by refine ⟨g14,?_⟩;simp)]⟩,HH.out.2.1.to (fun a b hR=>by have h7:=hR.wide hz5 (.inl rfl);exact ⟨by have:=hR.1;omega,h7.2⟩),HH.out.2.2.1.more (by omega),HH.out.2.2.2⟩
    ·have e1:((c1:Int)==0)=false:=beq_eq_false_iff_ne.2 (by omega)
     by_cases g2:c2=0
     ·subst g2
      go_wp2_with (first
       | (at_lookup;refine wpList_lookup_own_int _ rfl (.tmp 30) _ 189 rfl 3 3 .i64 zf3 Tryz.underlying189 Tryz.underlying3 (zjU _) m cnt D rfl MP.out _ (.int .i64 14) rfl HK14.out ?_;intro c0 hat9 hwc;(obtain rfl:(c14:Int)=c0:=(Lit.int.inj (DataW.lit.inj (A14.out.symm.trans hat9))).2);clear hat9 hwc)
       | ((with_reducible refine zad ?_ (zaZ (.tmp 35) (.const (.int .i64 1)) rfl rfl rfl MP.out (by decide) A1.out) ?_);(· rfl))
       | ((with_reducible refine zad ?_ (zaZ (.tmp 40) (.const (.int .i64 2)) rfl rfl rfl MP.out (by decide) A2.out) ?_);(· rfl)))
      clear k25
      refine wp_region_held_drew (S:=fun x=>Blk x r 191 (rdgC p rv m)∧zaV x (zdN wr lo2 rv) p∧zaD x lo2 175 5 rv rs∧Below w.heap.size w x) (by kernel_rfl) ⟨ST.out.rd.drew,ST.out.at_.keep (fun _ _ _ _ _ _=>rfl),⟨ST.out.ow.row,ST.out.ow.val,ST.out.ow.ap,ST.out.ow.vr⟩,zam ST.out.bl⟩ (fun hHeld=>?_)
      have HOB:=hHeld.2.1.ob
      have hmr:=ST.out.hm
      have hrl2:=ST.out.hr
      have hqm:=ST.out.hq
      refine rgT 0 ?_
      refine rgV 1 (.agg (attC p)) ?_ ?_
      ·(intro w' hSw;exact zcr (.tmp 47) rfl r 0 rfl (ziN hSw.1) HOB)
      refine rgT 2 ?_
      refine rgV 3 rv ?_ ?_
      ·(intro w' hSw;exact zcq (.tmp 49) rfl rfl (zj8 hSw.1 HOB))
      refine rgT 4 ?_
      have HS5:Blk (wr.drew.setCells w.heap.size 0 (attL p)) r 191 (rdgC p rv m)∧zaV (wr.drew.setCells w.heap.size 0 (attL p)) (zdN wr lo2 rv) p∧zaD (wr.drew.setCells w.heap.size 0 (attL p)) lo2 175 5 rv rs∧Below w.heap.size w (wr.drew.setCells w.heap.size 0 (attL p)):=by
       have hg:=zai (g:=w.heap.size) (attL p) 0 wr.drew wr.drew (zac _ _)
       exact ⟨hHeld.1.grown hg (by intro e;injection e;omega),hHeld.2.1.grown hg (fun a b hR=>⟨hR.2.1,.inl (by have:=hR.1;omega)⟩),hHeld.2.2.1.grown hg (fun b hb e=>by injection e with e;have:=(hHeld.2.2.1.lt b hb).1;omega),hHeld.2.2.2.grown hg (ST.out.bl.size) (fun q hq=>by injection hq;omega)⟩
      refine zau (i:=5) rfl (by kernel_rfl) (by rfl) (zbA (.tmp 2) (.tmp 48) rfl w.heap.size 0 rfl rfl HOB (zcH ST.out.res.drew)) HS5 (fun hHeld=>?_)
      refine rgN ?_
      refine rgT 6 ?_
      refine rgT 7 ?_
      have K5:=hide (zck ST.out.res.drew HOB)
      have hz5:wr.heap.size≤(wr.drew.setCells w.heap.size 0 (attL p)).heap.size:=(zai (g:=w.heap.size) (attL p) 0 wr.drew wr.drew (zac _ _)).size
      have HH:=hide hHeld
      have HBL:=hide ST.out.bl.size
      clear hHeld HS5
      generalize wr.drew.setCells w.heap.size 0 (attL p)=w5 at *
      refine wpAnyH_done (by kernel_rfl) ?_ _
      go_wp2
      refine zhW (c:=2) (q:=3) (s:=4) rfl rfl rfl rfl K5.out HOB rfl ?_
      exact ⟨p,rv,rs,_,rfl,⟨o,HI.out,by rw [HFO.out];rw [if_pos (by refine ⟨g14,?_⟩;simp)]⟩,HH.out.2.1.to (fun a b hR=>by have h7:=hR.wide hz5 (.inl rfl);exact ⟨by have:=hR.1;omega,h7.2⟩),HH.out.2.2.1.more (by omega),HH.out.2.2.2⟩
     ·have e2:((c2:Int)==0)=false:=beq_eq_false_iff_ne.2 (by omega)
      go_wp2_with (first
       | (at_lookup;refine wpList_lookup_own_int _ rfl (.tmp 30) _ 189 rfl 3 3 .i64 zf3 Tryz.underlying189 Tryz.underlying3 (zjU _) m cnt D rfl MP.out _ (.int .i64 14) rfl HK14.out ?_;intro c0 hat9 hwc;(obtain rfl:(c14:Int)=c0:=(Lit.int.inj (DataW.lit.inj (A14.out.symm.trans hat9))).2);clear hat9 hwc)
       | ((with_reducible refine zad ?_ (zaZ (.tmp 35) (.const (.int .i64 1)) rfl rfl rfl MP.out (by decide) A1.out) ?_);(· rfl))
       | ((with_reducible refine zad ?_ (zaZ (.tmp 40) (.const (.int .i64 2)) rfl rfl rfl MP.out (by decide) A2.out) ?_);(· rfl)))
      clear k25
      refine wp_region_held_drew (S:=fun x=>Blk x r 191 (rdgC p rv m)∧zaV x (zdN wr lo2 rv) p∧zaD x lo2 175 5 rv rs∧Below w.heap.size w x) (by kernel_rfl) ⟨ST.out.rd.drew,ST.out.at_.keep (fun _ _ _ _ _ _=>rfl),⟨ST.out.ow.row,ST.out.ow.val,ST.out.ow.ap,ST.out.ow.vr⟩,zam ST.out.bl⟩ (fun hHeld=>?_)
      have HOB:=hHeld.2.1.ob
      have hmr:=ST.out.hm
      have hrl2:=ST.out.hr
      have hqm:=ST.out.hq
      refine rgT 0 ?_
      refine rgV 1 (.agg (attC p)) ?_ ?_
      ·(intro w' hSw;exact zcr (.tmp 47) rfl r 0 rfl (ziN hSw.1) HOB)
      refine rgT 2 ?_
      refine rgV 3 rv ?_ ?_
      ·(intro w' hSw;exact zcq (.tmp 49) rfl rfl (zj8 hSw.1 HOB))
      refine rgT 4 ?_
      have HS5:Blk (wr.drew.setCells w.heap.size 0 (attL p)) r 191 (rdgC p rv m)∧zaV (wr.drew.setCells w.heap.size 0 (attL p)) (zdN wr lo2 rv) p∧zaD (wr.drew.setCells w.heap.size 0 (attL p)) lo2 175 5 rv rs∧Below w.heap.size w (wr.drew.setCells w.heap.size 0 (attL p)):=by
       have hg:=zai (g:=w.heap.size) (attL p) 0 wr.drew wr.drew (zac _ _)
       exact ⟨hHeld.1.grown hg (by intro e;injection e;omega),hHeld.2.1.grown hg (fun a b hR=>⟨hR.2.1,.inl (by have:=hR.1;omega)⟩),hHeld.2.2.1.grown hg (fun b hb e=>by injection e with e;have:=(hHeld.2.2.1.lt b hb).1;omega),hHeld.2.2.2.grown hg (ST.out.bl.size) (fun q hq=>by injection hq;omega)⟩
      refine zau (i:=5) rfl (by kernel_rfl) (by rfl) (zbA (.tmp 2) (.tmp 48) rfl w.heap.size 0 rfl rfl HOB (zcH ST.out.res.drew)) HS5 (fun hHeld=>?_)
      refine rgN ?_
      refine rgT 6 ?_
      refine rgT 7 ?_
      have K5:=hide (zck ST.out.res.drew HOB)
      have hz5:wr.heap.size≤(wr.drew.setCells w.heap.size 0 (attL p)).heap.size:=(zai (g:=w.heap.size) (attL p) 0 wr.drew wr.drew (zac _ _)).size
      have HH:=hide hHeld
      have HBL:=hide ST.out.bl.size
      clear hHeld HS5
      generalize wr.drew.setCells w.heap.size 0 (attL p)=w5 at *
      refine wpAnyH_done (by kernel_rfl) ?_ _
      go_wp2
      refine zhW (c:=2) (q:=3) (s:=4) rfl rfl rfl rfl K5.out HOB rfl ?_
      exact ⟨p,rv,rs,_,rfl,⟨o,HI.out,by rw [HFO.out];rw [if_neg (by omega)]⟩,HH.out.2.1.to (fun a b hR=>by have h7:=hR.wide hz5 (.inl rfl);exact ⟨by have:=hR.1;omega,h7.2⟩),HH.out.2.2.1.more (by omega),HH.out.2.2.2⟩
   ·have i14:¬ (0:Int)<(c14:Int):=by omega
    go_wp2_with (first
     | (at_lookup;refine wpList_lookup_own_int _ rfl (.tmp 30) _ 189 rfl 3 3 .i64 zf3 Tryz.underlying189 Tryz.underlying3 (zjU _) m cnt D rfl MP.out _ (.int .i64 14) rfl HK14.out ?_;intro c0 hat9 hwc;(obtain rfl:(c14:Int)=c0:=(Lit.int.inj (DataW.lit.inj (A14.out.symm.trans hat9))).2);clear hat9 hwc)
     | ((with_reducible refine zad ?_ (zaZ (.tmp 35) (.const (.int .i64 1)) rfl rfl rfl MP.out (by decide) A1.out) ?_);(· rfl))
     | ((with_reducible refine zad ?_ (zaZ (.tmp 40) (.const (.int .i64 2)) rfl rfl rfl MP.out (by decide) A2.out) ?_);(· rfl)))
    clear k25
    refine wp_region_held_drew (S:=fun x=>Blk x r 191 (rdgC p rv m)∧zaV x (zdN wr lo2 rv) p∧zaD x lo2 175 5 rv rs∧Below w.heap.size w x) (by kernel_rfl) ⟨ST.out.rd.drew,ST.out.at_.keep (fun _ _ _ _ _ _=>rfl),⟨ST.out.ow.row,ST.out.ow.val,ST.out.ow.ap,ST.out.ow.vr⟩,zam ST.out.bl⟩ (fun hHeld=>?_)
    have HOB:=hHeld.2.1.ob
    have hmr:=ST.out.hm
    have hrl2:=ST.out.hr
    have hqm:=ST.out.hq
    refine rgT 0 ?_
    refine rgV 1 (.agg (attC p)) ?_ ?_
    ·(intro w' hSw;exact zcr (.tmp 47) rfl r 0 rfl (ziN hSw.1) HOB)
    refine rgT 2 ?_
    refine rgV 3 rv ?_ ?_
    ·(intro w' hSw;exact zcq (.tmp 49) rfl rfl (zj8 hSw.1 HOB))
    refine rgT 4 ?_
    have HS5:Blk (wr.drew.setCells w.heap.size 0 (attL p)) r 191 (rdgC p rv m)∧zaV (wr.drew.setCells w.heap.size 0 (attL p)) (zdN wr lo2 rv) p∧zaD (wr.drew.setCells w.heap.size 0 (attL p)) lo2 175 5 rv rs∧Below w.heap.size w (wr.drew.setCells w.heap.size 0 (attL p)):=by
     have hg:=zai (g:=w.heap.size) (attL p) 0 wr.drew wr.drew (zac _ _)
     exact ⟨hHeld.1.grown hg (by intro e;injection e;omega),hHeld.2.1.grown hg (fun a b hR=>⟨hR.2.1,.inl (by have:=hR.1;omega)⟩),hHeld.2.2.1.grown hg (fun b hb e=>by injection e with e;have:=(hHeld.2.2.1.lt b hb).1;omega),hHeld.2.2.2.grown hg (ST.out.bl.size) (fun q hq=>by injection hq;omega)⟩
    refine zau (i:=5) rfl (by kernel_rfl) (by rfl) (zbA (.tmp 2) (.tmp 48) rfl w.heap.size 0 rfl rfl HOB (zcH ST.out.res.drew)) HS5 (fun hHeld=>?_)
    refine rgN ?_
    refine rgT 6 ?_
    refine rgT 7 ?_
    have K5:=hide (zck ST.out.res.drew HOB)
    have hz5:wr.heap.size≤(wr.drew.setCells w.heap.size 0 (attL p)).heap.size:=(zai (g:=w.heap.size) (attL p) 0 wr.drew wr.drew (zac _ _)).size
    have HH:=hide hHeld
    have HBL:=hide ST.out.bl.size
    clear hHeld HS5
    generalize wr.drew.setCells w.heap.size 0 (attL p)=w5 at *
    refine wpAnyH_done (by kernel_rfl) ?_ _
    go_wp2
    refine zhW (c:=2) (q:=3) (s:=4) rfl rfl rfl rfl K5.out HOB rfl ?_
    exact ⟨p,rv,rs,_,rfl,⟨o,HI.out,by rw [HFO.out];rw [if_neg (by omega)]⟩,HH.out.2.1.to (fun a b hR=>by have h7:=hR.wide hz5 (.inl rfl);exact ⟨by have:=hR.1;omega,h7.2⟩),HH.out.2.2.1.more (by omega),HH.out.2.2.2⟩
end
end Go.Proofs.YtjindligkhdddaaGreatDoor
