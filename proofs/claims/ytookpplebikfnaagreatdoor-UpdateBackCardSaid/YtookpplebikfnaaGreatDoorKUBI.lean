/-
  How an update that comes in is opened. No condition.
  Read of package attr over what Write wrote of right attributes: all of it comes back. The conditions: the table stands, and each value can be said and written (Sayable).
  What a value says where it says an address or communities, in whatever memory. No condition.
  What a value says where it says a row of addresses, in whatever memory. No condition.
-/
import Derived.Test.YtookpplebikfnaaGreatDoorKUBH
set_option linter.unusedVariables false
set_option linter.unusedSimpArgs false
namespace Go.Proofs.YtookpplebikfnaaGreatDoor
section
set_option maxRecDepth 100000
open Go.RowKit Go.ChangeShapes Go.WideShapes Go.ChangeAt
theorem zpF {H:Type} {enc:TypeId × Value→H} {w:World} {fuel:Nat} {l:List Value} {x:DataW H × List MemPlace} (h:DataW.trod enc Tryz.prog w 0 (fun _=>true) true fuel 128 l=some x) :
  ∃ s bs k,l=zhd s bs k∧bs.length=16∧(Lit.int .i64 s).wf=true∧(Lit.int .i64 k).wf=true:=by
 obtain ⟨y0,y1,n,_,hl,h0,h1⟩:=trod_struct2 Tryz.underlying128 h
 have e0:∀ l:List Value,(l.drop 0).take (Tryz.prog.cellsOf 25)=l.take 17:=fun l=>by rw [show Tryz.prog.cellsOf 25=17 by kernel_rfl];rfl
 have e1:∀ l:List Value,(l.drop 17).take (Tryz.prog.cellsOf 3)=(l.drop 17).take 1:=fun l=>by rw [show Tryz.prog.cellsOf 3=1 by kernel_rfl]
 have h0':=(congrArg (DataW.trod enc Tryz.prog w 0 (fun _=>true) true n 25) (e0 l)).symm.trans h0
 have h1':=(congrArg (DataW.trod enc Tryz.prog w 0 (fun _=>true) true n 3) (e1 l)).symm.trans h1
 obtain ⟨s,bs,hs,hbl,hw⟩:=zcZ h0'
 obtain ⟨k,hk,_,wk⟩:=DataW.trod_int Tryz.underlying3 h1'
 have hll:l.length=18:=hl.trans (by kernel_rfl)
 refine ⟨s,bs,k,?_,hbl,hw,wk⟩
 have hd:(l.drop 17).take 1=l.drop 17:=List.take_of_length_le (by rw [List.length_drop,hll];decide)
 rw [hd] at hk
 rw [← List.take_append_drop 17 l,hs,hk]
 rfl
theorem zqQ {H:Type} {enc:TypeId × Value→H} {w:World} {fuel:Nat} {l:List Value} {x:DataW H × List MemPlace} (h:DataW.trod enc Tryz.prog w 0 (fun _=>true) true fuel 130 l=some x) :
  ∃ u:Ur,l=uroL u∧u.W:=by
 obtain ⟨xs,n,_,hx,hl,hlen,hfs⟩:=DataW.trod_struct Tryz.underlying130 h
 match xs,hlen with
 | [y0,y1,y2],_ =>
  have g0:=hfs 0 _ rfl
  have g1:=hfs 1 _ rfl
  have g2:=hfs 2 _ rfl
  have ci:Tryz.prog.cellsOf 3=1:=by kernel_rfl
  have cr:Tryz.prog.cellsOf 84=8:=by kernel_rfl
  have cp:Tryz.prog.cellsOf 128=18:=by kernel_rfl
  have e0:DataW.trod enc Tryz.prog w 0 (fun _=>true) true n 84 ((l.drop 0).take 8)=some y0:=by rw [← cr];exact g0
  have e1:DataW.trod enc Tryz.prog w 0 (fun _=>true) true n 128 ((l.drop 8).take 18)=some y1:=by rw [← cp];exact g1
  have e2:DataW.trod enc Tryz.prog w 0 (fun _=>true) true n 3 ((l.drop 26).take 1)=some y2:=by rw [← ci];exact g2
  have hll:l.length=27:=hl.trans (by kernel_rfl)
  obtain ⟨rd,hrd,hrl⟩:=zfs Tryz.underlying84 Tryz.underlying5 (by kernel_rfl) (by kernel_rfl) e0
  obtain ⟨s,bs,k,hp,hbl,ws,wk⟩:=zpF e1
  obtain ⟨lab,hlb,_,wl⟩:=DataW.trod_int Tryz.underlying3 e2
  refine ⟨⟨rd,s,bs,k,lab⟩,?_,⟨hrl,hbl,zi3 ws,zi3 wk,zi3 wl⟩⟩
  have d26:(l.drop 26).take 1=l.drop 26:=List.take_of_length_le (by rw [List.length_drop,hll];decide)
  have a1:l.drop 8=(l.drop 8).take 18++l.drop 26:=by
   conv=>lhs;rw [← List.take_append_drop 18 (l.drop 8),List.drop_drop]
  have a0:l=(l.drop 0).take 8++l.drop 8:=by
   rw [List.drop_zero,List.take_append_drop]
  rw [a0,a1,hrd,hp,← d26,hlb]
  rfl
theorem zsq {H:Type} {enc:TypeId × Value→H} {w:World} {fuel:Nat} {l:List Value} {x:DataW H × List MemPlace} (h:DataW.trod enc Tryz.prog w 0 (fun _=>true) true fuel 86 l=some x) :
  ∃ m:Mr,l=mroL m∧m.W:=by
 obtain ⟨xs,n,_,hx,hl,hlen,hfs⟩:=DataW.trod_struct Tryz.underlying86 h
 match xs,hlen with
 | [y0,y1,y2,y3,y4,y5,y6],_ =>
  have g0:=hfs 0 _ rfl
  have g1:=hfs 1 _ rfl
  have g2:=hfs 2 _ rfl
  have g3:=hfs 3 _ rfl
  have g4:=hfs 4 _ rfl
  have g5:=hfs 5 _ rfl
  have g6:=hfs 6 _ rfl
  have ci:Tryz.prog.cellsOf 3=1:=by kernel_rfl
  have cr:Tryz.prog.cellsOf 84=8:=by kernel_rfl
  have ca:Tryz.prog.cellsOf 25=17:=by kernel_rfl
  have cs1:Tryz.prog.cellsOf 9=1:=by kernel_rfl
  have e0:DataW.trod enc Tryz.prog w 0 (fun _=>true) true n 3 ((l.drop 0).take 1)=some y0:=by rw [← ci];exact g0
  have e1:DataW.trod enc Tryz.prog w 0 (fun _=>true) true n 84 ((l.drop 1).take 8)=some y1:=by rw [← cr];exact g1
  have e2:DataW.trod enc Tryz.prog w 0 (fun _=>true) true n 3 ((l.drop 9).take 1)=some y2:=by rw [← ci];exact g2
  have e3:DataW.trod enc Tryz.prog w 0 (fun _=>true) true n 25 ((l.drop 10).take 17)=some y3:=by rw [← ca];exact g3
  have e4:DataW.trod enc Tryz.prog w 0 (fun _=>true) true n 25 ((l.drop 27).take 17)=some y4:=by rw [← ca];exact g4
  have e5:DataW.trod enc Tryz.prog w 0 (fun _=>true) true n 25 ((l.drop 44).take 17)=some y5:=by rw [← ca];exact g5
  have e6:DataW.trod enc Tryz.prog w 0 (fun _=>true) true n 9 ((l.drop 61).take 1)=some y6:=by rw [← cs1];exact g6
  have hll:l.length=62:=hl.trans (by kernel_rfl)
  obtain ⟨k,hk,_,wk⟩:=DataW.trod_int Tryz.underlying3 e0
  obtain ⟨rd,hrd,hrl⟩:=zfs Tryz.underlying84 Tryz.underlying5 (by kernel_rfl) (by kernel_rfl) e1
  obtain ⟨a,ha,_,wa⟩:=DataW.trod_int Tryz.underlying3 e2
  obtain ⟨ss,sb,hs,hsl,hsw⟩:=zcZ e3
  obtain ⟨gs,gb,hg,hgl,hgw⟩:=zcZ e4
  obtain ⟨fs,fb,hff,hfl,hfw⟩:=zcZ e5
  obtain ⟨ky,hky,_,_⟩:=DataW.trod_string Tryz.underlying9 e6
  have hcs:l=mroL ⟨k,rd,a,ss,sb,gs,gb,fs,fb,ky.data.toList⟩:=by
   have d61:(l.drop 61).take 1=l.drop 61:=List.take_of_length_le (by rw [List.length_drop,hll];decide)
   have a5:l.drop 44=(l.drop 44).take 17++l.drop 61:=by
    conv=>lhs;rw [← List.take_append_drop 17 (l.drop 44),List.drop_drop]
   have a4:l.drop 27=(l.drop 27).take 17++l.drop 44:=by
    conv=>lhs;rw [← List.take_append_drop 17 (l.drop 27),List.drop_drop]
   have a3:l.drop 10=(l.drop 10).take 17++l.drop 27:=by
    conv=>lhs;rw [← List.take_append_drop 17 (l.drop 10),List.drop_drop]
   have a2:l.drop 9=(l.drop 9).take 1++l.drop 10:=by
    conv=>lhs;rw [← List.take_append_drop 1 (l.drop 9),List.drop_drop]
   have a1:l.drop 1=(l.drop 1).take 8++l.drop 9:=by
    conv=>lhs;rw [← List.take_append_drop 8 (l.drop 1),List.drop_drop]
   have a0:l=(l.drop 0).take 1++l.drop 1:=by
    rw [List.drop_zero,List.take_append_drop]
   have hb:(⟨ky.data.toList.toArray⟩:ByteArray)=ky:=by cases ky;rfl
   rw [a0,a1,a2,a3,a4,a5,hk,hrd,ha,hs,hg,hff,← d61,hky]
   unfold mroL
   rw [hb]
  exact ⟨⟨k,rd,a,ss,sb,gs,gb,fs,fb,ky.data.toList⟩,hcs,⟨hrl,hsl,hgl,hfl⟩⟩
instance:Inhabited Ur:=⟨zew⟩
instance:Inhabited Mr:=⟨⟨0,[],0,0,[],0,[],0,[],[]⟩⟩
instance:Inhabited TbP:=⟨⟨0,0,0,[],none,0,0,[],none,0,0,[]⟩⟩
theorem zoe {H:Type} {enc:TypeId × Value→H} {w:World} {fuel:Nat} {l:List Value} {x:DataW H × List MemPlace} (h:DataW.trod enc Tryz.prog w 0 (fun _=>true) true fuel 53 l=some x) :
  ∃ q:TbP,l=tbL q∧mTb w 0 w.heap.size q∧wTb q:=by
 obtain ⟨xs,n,_,hx,hl,hlen,hfs⟩:=DataW.trod_struct Tryz.underlying53 h
 match xs,hlen with
 | [y0,y1,y2,y3,y4],_ =>
  have g0:=hfs 0 _ rfl
  have g1:=hfs 1 _ rfl
  have g2:=hfs 2 _ rfl
  have g3:=hfs 3 _ rfl
  have g4:=hfs 4 _ rfl
  have ci:Tryz.prog.cellsOf 3=1:=by kernel_rfl
  have ca:Tryz.prog.cellsOf 25=17:=by kernel_rfl
  have cm:Tryz.prog.cellsOf 50=1:=by kernel_rfl
  have cu:Tryz.prog.cellsOf 51=1:=by kernel_rfl
  have e0:DataW.trod enc Tryz.prog w 0 (fun _=>true) true n 3 ((l.drop 0).take 1)=some y0:=by rw [← ci];exact g0
  have e1:DataW.trod enc Tryz.prog w 0 (fun _=>true) true n 3 ((l.drop 1).take 1)=some y1:=by rw [← ci];exact g1
  have e2:DataW.trod enc Tryz.prog w 0 (fun _=>true) true n 25 ((l.drop 2).take 17)=some y2:=by rw [← ca];exact g2
  have e3:DataW.trod enc Tryz.prog w 0 (fun _=>true) true n 50 ((l.drop 19).take 1)=some y3:=by rw [← cm];exact g3
  have e4:DataW.trod enc Tryz.prog w 0 (fun _=>true) true n 51 ((l.drop 20).take 1)=some y4:=by rw [← cu];exact g4
  have hll:l.length=21:=hl.trans (by kernel_rfl)
  have one:∀ k,k<21→∃ v,(l.drop k).take 1=[v]:=fun k hk=>by
   have hlen:((l.drop k).take 1).length=1:=by rw [List.length_take,List.length_drop,hll];omega
   match (l.drop k).take 1,hlen with
   | [v],_=>exact ⟨v,rfl⟩
  obtain ⟨s,hs0,_,_⟩:=DataW.trod_int Tryz.underlying3 e0
  obtain ⟨f,hf0,_,_⟩:=DataW.trod_int Tryz.underlying3 e1
  obtain ⟨ns,nb,hn0,hbl,_⟩:=zcZ e2
  obtain ⟨v3,hv3⟩:=one 19 (by decide)
  obtain ⟨v4,hv4⟩:=one 20 (by decide)
  rw [hv3] at e3
  rw [hv4] at e4
  have hcs:l = .int .i64 s :: .int .i64 f::((.int .i64 ns::bvs nb)++[v3,v4]):=by
   have d20:(l.drop 20).take 1=l.drop 20:=List.take_of_length_le (by rw [List.length_drop,hll];decide)
   have a19:l.drop 19=(l.drop 19).take 1++l.drop 20:=by
    conv=>lhs;rw [← List.take_append_drop 1 (l.drop 19),List.drop_drop]
   have a2:l.drop 2=(l.drop 2).take 17++l.drop 19:=by
    conv=>lhs;rw [← List.take_append_drop 17 (l.drop 2),List.drop_drop]
   have a1:l.drop 1=(l.drop 1).take 1++l.drop 2:=by
    conv=>lhs;rw [← List.take_append_drop 1 (l.drop 1),List.drop_drop]
   have a0:l=(l.drop 0).take 1++l.drop 1:=by rw [List.drop_zero,List.take_append_drop]
   rw [a0,a1,a2,a19,← d20,hs0,hf0,hn0,hv3,hv4]
   rfl
  obtain ⟨mA,mn,mc,ms,rfl,hm,hmn,_⟩:=zc8 (α:=Mr) (enc:=mroL) (m:=fun _ _ _ _=>True) (W:=Mr.W) (K:=62) (by decide) Tryz.underlying50 (by kernel_rfl) (fun x hx=>zdJ hx)
   (fun fuel l y h=>by obtain ⟨m,h1,h2⟩:=zsq h;exact ⟨m,h1,trivial,h2⟩) e3
  obtain ⟨uA,un,uc,us,rfl,hu,hun,_⟩:=zc8 (α:=Ur) (enc:=uroL) (m:=fun _ _ _ _=>True) (W:=Ur.W) (K:=27) (by decide) Tryz.underlying51 (by kernel_rfl) (fun x hx=>zd6 hx)
   (fun fuel l y h=>by obtain ⟨m,h1,h2⟩:=zqQ h;exact ⟨m,h1,trivial,h2⟩) e4
  exact ⟨⟨s,f,ns,nb,mA,mn,mc,ms,uA,un,uc,us⟩,hcs,⟨hm.row,hu.row,hmn,hun⟩,⟨hbl,hm.sz,hu.sz⟩⟩
theorem zqT {H:Type} {enc:TypeId × Value→H} {w:World} {fuel:Nat} {l:List Value} {x:DataW H × List MemPlace} (h:DataW.trod enc Tryz.prog w 0 (fun _=>true) true fuel 33 l=some x) :
  ∃ q:UpP,l=updL q∧UpAt w 0 w.heap.size q∧FewS q:=by
 obtain ⟨xs,n,_,hx,hl,hlen,hfs⟩:=DataW.trod_struct Tryz.underlying33 h
 match xs,hlen with
 | [y0,y1,y2],_ =>
  have g0:=hfs 0 _ rfl
  have g1:=hfs 1 _ rfl
  have g2:=hfs 2 _ rfl
  have ca:Tryz.prog.cellsOf 30=24:=by kernel_rfl
  have ct:Tryz.prog.cellsOf 31=1:=by kernel_rfl
  have e0:DataW.trod enc Tryz.prog w 0 (fun _=>true) true n 30 ((l.drop 0).take 24)=some y0:=by rw [← ca];exact g0
  have e1:DataW.trod enc Tryz.prog w 0 (fun _=>true) true n 31 ((l.drop 24).take 1)=some y1:=by rw [← ct];exact g1
  have e2:DataW.trod enc Tryz.prog w 0 (fun _=>true) true n 31 ((l.drop 25).take 1)=some y2:=by rw [← ct];exact g2
  have hll:l.length=26:=hl.trans (by kernel_rfl)
  have one:∀ k,k<26→∃ v,(l.drop k).take 1=[v]:=fun k hk=>by
   have hlen:((l.drop k).take 1).length=1:=by rw [List.length_take,List.length_drop,hll];omega
   match (l.drop k).take 1,hlen with
   | [v],_=>exact ⟨v,rfl⟩
  obtain ⟨a,ha,hat,hpc,htc⟩:=ztc e0
  obtain ⟨v1,hv1⟩:=one 24 (by decide)
  obtain ⟨v2,hv2⟩:=one 25 (by decide)
  rw [hv1] at e1
  rw [hv2] at e2
  have hcs:l=attL a++[v1,v2]:=by
   have d25:(l.drop 25).take 1=l.drop 25:=List.take_of_length_le (by rw [List.length_drop,hll];decide)
   have a24:l.drop 24=(l.drop 24).take 1++l.drop 25:=by
    conv=>lhs;rw [← List.take_append_drop 1 (l.drop 24),List.drop_drop]
   have a0:l=(l.drop 0).take 24++l.drop 24:=by rw [List.drop_zero,List.take_append_drop]
   rw [a0,a24,← d25,ha,hv1,hv2]
   rfl
  obtain ⟨rA,rn,rc,re,rfl,hr,hrn,hrc⟩:=zc8 (α:=TbP) (enc:=tbL) (m:=mTb) (W:=wTb) (K:=21) (by decide) Tryz.underlying31 (by kernel_rfl) (fun x hx=>zhW hx) (fun fuel l y h=>zoe h) e1
  obtain ⟨nA,nn,nc,ne,rfl,hn,hnn,hnc⟩:=zc8 (α:=TbP) (enc:=tbL) (m:=mTb) (W:=wTb) (K:=21) (by decide) Tryz.underlying31 (by kernel_rfl) (fun x hx=>zhW hx) (fun fuel l y h=>zoe h) e2
  exact ⟨⟨a,rA,rn,rc,re,nA,nn,nc,ne⟩,hcs,⟨hat,hr,hn,hrn,hnn⟩,⟨Nat.le_trans hat.pc hpc,Nat.le_trans hat.tc htc,Nat.le_trans hrn hrc,Nat.le_trans hnn hnc⟩⟩
theorem znn {H:Type} {enc:TypeId × Value→H} {w:World} {v:Value} {d:DataW H} {p:List MemPlace} {base:Nat}
  (hv:Value.okWide Tryz.prog w .any base 33 v) (h:DataW.Trod enc Tryz.prog w 0 (fun _=>true) true 33 v d p) :
  ∃ q:UpP,v = .agg (updC q)∧UpAt w 0 w.heap.size q∧FewS q:=by
 obtain ⟨cs,rfl,hsz0⟩:=okWide_struct Tryz.underlying33 hv
 obtain ⟨fuel,hf⟩:=h
 obtain ⟨q,h1,h2,h3⟩:=zqT (l:=cs.toList) hf
 refine ⟨q,?_,h2,h3⟩
 unfold updC
 rw [← h1]
end
section
open Go.RowKit
theorem zpP:zdZ zb4:=⟨by decide,by decide,by decide,by decide,.inl ⟨rfl,rfl⟩,by decide,by decide,by decide⟩
theorem zlL {i:Item} {x:Ats} (hx:zdZ x) (hi:i.Ok):zdZ (i.say x):=by
 obtain ⟨h1,h2,h3,h4,h5,h6,h7,h8⟩:=hx
 cases i with
 | origin o=>exact ⟨hi,h2,h3,h4,h5,h6,h7,h8⟩
 | path p=>exact ⟨h1,h2,h3,hi,h5,h6,h7,h8⟩
 | med m=>exact ⟨h1,⟨by have:=hi.1;show -1≤m;omega,hi.2⟩,h3,h4,h5,h6,h7,h8⟩
 | pref m=>exact ⟨h1,h2,⟨by have:=hi.1;show -1≤m;omega,hi.2⟩,h4,h5,h6,h7,h8⟩
 | orig s b=>exact ⟨h1,h2,h3,h4,.inr hi.2,h6,h7,h8⟩
 | clus l=>exact ⟨h1,h2,h3,h4,h5,⟨hi.2.1,hi.2.2.2⟩,h7,h8⟩
 | exts l=>exact ⟨h1,h2,h3,h4,h5,h6,hi.2,h8⟩
 | tun t=>exact ⟨h1,h2,h3,h4,h5,h6,h7,⟨Nat.le_refl 1,by show (zbP t&&true)=true;rw [hi.2];rfl⟩⟩
theorem zjU:∀ {l:List Item} {x:Ats},zdZ x→(∀ i∈l,i.Ok)→zdZ (zdw l x)
 | [],x,hx,_=>hx
 | i::r,x,hx,h=>zjU (l:=r) (zlL hx (h i (by simp))) (fun j hj=>h j (by simp [hj]))
end
section
open Go.RowKit
set_option maxRecDepth 20000 in
set_option maxHeartbeats 2000000 in
theorem zic (w:World) (lo g:Nat) (bs:List UInt8) (bad:Bool) (h:Rd w lo g bs bad) :
  Calls Tryz.prog 159 #[.pointer (some ⟨g,0,none⟩)] w fun e w'=>e = .returned (.agg (zaq (ofS (zab bs 4)) (ofB (zab bs 4))))∧Rd w' lo g (zae bs 4) (bad||!zbg bs 4)∧w.grownBy w' (some g):=by
 have hgl:=h.lt
 have RES:=hide (Blk.new w 25 zAdr)
 have R0:Hid (Rd (w.alloc (.cells zAdr 25)) lo g bs bad):=hide (h.keep (zaE (zac w none) _) (by simp))
 have G0:Hid (w.grownBy (w.alloc (.cells zAdr 25)) (some g)):=hide (zaE (zac w _) _)
 have hq:w.heap.size+1≤(w.alloc (.cells zAdr 25)).heap.size:=by simp
 clear h
 go_enter Tryz.func159,Tryz.ntmps159
 go_wp2_with fail
 generalize hw0:w.alloc (.cells zAdr 25)=w0 at *
 clear hw0
 refine (za4 w0 lo g bs bad R0.out 4 (by decide)).mono ?_
 rintro e w1 ⟨v1,rfl,ho1,hr1,hg1⟩
 obtain ⟨A1,c1,rfl,_,_⟩:=zad ho1
 have O1:=hide ho1
 have R1:=hide hr1
 have B1:=hide (RES.out.grown hg1 (fun e=>by injection e;omega))
 have G1:=hide (zaj G0.out hg1)
 have hq1:=Nat.le_trans hq hg1.size
 clear ho1 hr1 hg1 R0 RES G0 hq
 go_wp2_with fail
 refine (zhC w1 _ _ A1 _ c1 _ (At.own O1.out) (Nat.le_refl _)).mono ?_
 obtain ⟨S,hS⟩:∃ S,ofS (zab bs 4)=S:=⟨_,rfl⟩
 obtain ⟨BB,hB⟩:∃ BB,ofB (zab bs 4)=BB:=⟨_,rfl⟩
 have hbl:BB.length=16:=by rw [← hB];exact zb3 _
 rw [hS,hB]
 rintro e w2 ⟨rfl,hb2⟩
 have R2:=hide (R1.out.keep (zaP hb2 none) (by simp))
 have B2:=hide (B1.out.over hb2)
 have G2:=hide (zaj G1.out (zaP hb2 _))
 have hq2:=Nat.le_trans hq1 hb2.size
 have NEW:=hide (Blk.new w2 25 zAdr)
 have HSS:=hide hS
 have HBB:=hide hB
 clear hb2 R1 B1 G1 O1 hS hB
 go_wp2_with (refine zaC rfl (.tmp 3) (.tmp 9) rfl w2.heap.size rfl rfl hbl NEW.out rfl ?_;intro w3 hb3 hg3;have B3:=hide hb3;have G3:=hide hg3;clear hb3 hg3;refine Hid.out ?_)
 refine hide ?_
 have hg23:w2.grownBy w3 none:=⟨G3.out.os,G3.out.tape,G3.out.output,Nat.le_trans (by simp) G3.out.size,fun k hk _=>(G3.out.block k (by simp;omega) (fun e=>by injection e;omega)).trans (Below.heap_alloc w2 _ k hk)⟩
 have R3:=hide (R2.out.keep hg23 (by simp))
 have C3:=hide (B2.out.grown hg23 (by simp))
 have G23:=hide (zaj G2.out (show w2.grownBy w3 (some g) from ⟨hg23.os,hg23.tape,hg23.output,hg23.size,fun k hk _=>hg23.block k hk (by simp)⟩))
 clear hg23 G3 NEW R2 B2 G2
 go_wp2_with (first
  | (with_reducible refine zaG rfl (.tmp 3) rfl w2.heap.size rfl B3.out hbl ?_)
  | (refine zaC rfl (.tmp 2) (.tmp 11) rfl w.heap.size rfl rfl hbl C3.out rfl ?_;intro w4 hb4 hg4;have B4:=hide hb4;have G4:=hide hg4;clear hb4 hg4;refine Hid.out ?_))
 refine hide ?_
 go_wp2
 refine zlW (p:=2) rfl rfl B4.out hbl rfl ?_
 refine ⟨by rw [HSS.out,HBB.out],R3.out.keep G4.out (fun k hk=>by injection hk;exact .inr (by omega)),zmc G23.out G4.out (Nat.le_refl _)⟩
theorem ztm {w:World} {base n c:Nat} {A:Option Addr} {l:List B8} (hl:l.length=n) (h:w.ownsRow base 105 8 (.slice A n c) n (bvs (zaY l))):AtE w base w.heap.size A n l:=by
 refine ⟨hl,by rw [zci,hl],fun hn=>?_⟩
 rcases h.2 with ⟨_,h2⟩ | ⟨g,cap,cur,h1,h2,h3,h4,h5,h6,h7⟩
 ·omega
 ·injection h1 with e1 e2 e3
  have hb:Blk w g 105 cur:=h3
  refine ⟨g,0,e1,h2,hb.lt,fun k u hu=>?_⟩
  rw [Nat.zero_add,hb.cell]
  have h8:(bvs (zaY l))[k]?=some (bv u):=by unfold bvs;rw [List.getElem?_map,hu];rfl
  rw [← h7,List.getElem?_take] at h8
  split at h8
  ·simpa using h8
  ·cases h8
end
section
open Go.RowKit
theorem zxt:(Tryz.prog.info? 25).map (fun i=>(i.zero.map (·.cells.size),i.size,i.bytes))=some (some 17,17,24):=by kernel_rfl
theorem zvi:∃ (i:TypeInfo) (z:Value),Tryz.prog.info? 25=some i∧i.zero=some z∧i.size=17∧i.bytes=24∧z.cells.size=17:=by
 have h:=zxt
 cases hq:Tryz.prog.info? 25 with
 | none=>rw [hq] at h;cases h
 | some i =>
  rw [hq] at h
  simp only [Option.map_some,Option.some.injEq,Prod.mk.injEq] at h
  cases hz:i.zero with
  | none=>rw [hz] at h;simp at h
  | some z =>
   rw [hz] at h
   simp at h
   exact ⟨i,z,rfl,hz,h.2.1,h.2.2,h.1⟩
theorem zvO:∃ z:Value,z.cells.size=17∧∀ w,(zeroValue 25).run Tryz.prog w = .ok z w:=⟨_,by kernel_rfl,Tryz.zeroValue25⟩
theorem zfR {o:Oper} {a:Act} (w:World) (x:Operand) (ho:o.op = .buildSlice 26 1 #[(0,x)]) {s:Int} {b:List UInt8} (hl:b.length=16) (ex:a.eval x = .agg (zaq s b)) :
  (execOp a.eval o).run Tryz.prog w = .ok (.value (.slice (some ⟨w.heap.size,0,none⟩) 1 1)) (w.alloc (.cells (zaq s b) 25)):=by
 obtain ⟨z,hz,hz2⟩:=zvO
 have h:=zcd (P:=Tryz.prog) w 26 25 (zaq s b) z Tryz.underlying26 (fun w=>Tryz.sizeOf25 w) hz2 hz (zcD s hl) (by decide) (by decide)
 unfold execOp
 simp only [ho,List.map_toArray,List.map_cons,List.map_nil,ex,Sem.run_bind,h,Result.andThen_ok,Sem.run_pure]
theorem zxu (x:Int × List UInt8):∀ u∈adL x,u.oneCell'=true:=fun u hu=>by
 simp only [adL,List.mem_cons] at hu
 rcases hu with rfl | hu
 ·rfl
 ·exact zb8 _ u hu
theorem zfJ (w:World) (base:Nat) (ty:TypeId) (v:Value) (n:Nat) (xs:List (Int × List UInt8)) (hown:w.ownsRow base 25 17 v n (za5 adL xs)) (lo hi':Nat) (A:Option Addr) (m c:Nat) (news:List (Int × List UInt8)) (hs:∀ x∈news,x.2.length=16) (hr:AtG adL w lo hi' A m news)
  (hb:n+m≤1000000000000) (hbase:base≤w.heap.size) :
  ∃ v' w',(Builtin.append_ #[26,26] ty #[v,.slice A m c]).run Tryz.prog w = .ok v' w'∧w'.ownsRow base 25 17 v' (n+m) (za5 adL (xs++news))∧w.grownBy w' v.ownBlock∧(v'.ownBlock=v.ownBlock∨v'.ownBlock=some w.heap.size):=by
 obtain ⟨i,z,hi,hz,h1,h2,h3⟩:=zvi
 exact zcu (P:=Tryz.prog) w base 26 ty 25 i z 24 Tryz.underlying26 hi hz h1 h2 h3 (by decide) v n xs hown lo hi' A m c news hr (fun y hy=>zeN (hs y hy)) (fun y hy=>zxu y) (by omega) (by unfold maxLen;omega) hbase
theorem zcm {a b c:World} {g:Nat} {row:Option Nat} (h:a.grownBy b (some g)) (k:b.grownBy c row) (hr:∀ q,row=some q→a.heap.size≤q):a.grownBy c (some g) :=
 ⟨k.os.trans h.os,k.tape.trans h.tape,k.output.trans h.output,Nat.le_trans h.size k.size,fun i hi hne=>(k.block i (Nat.lt_of_lt_of_le hi h.size) (fun e=>by have:=hr _ e.symm;omega)).trans (h.block i hi hne)⟩
theorem zs1 {l:List (Int × List UInt8)} {k:Nat} {x:Int × List UInt8} (h:l[k]?=some x):clB (l.drop k)=zar x.1 x.2++clB (l.drop (k+1)):=by
 obtain ⟨h1,h2⟩:=List.getElem?_eq_some_iff.1 h
 rw [List.drop_eq_getElem_cons h1,h2]
 rfl
theorem step4 {a r:List UInt8} (h:a.length=4):zab (a++r) 4=a∧zae (a++r) 4=r∧zbg (a++r) 4=true:=by
 have hs:zbg (a++r) 4=true:=by unfold zbg;rw [decide_eq_true_eq,List.length_append,h];omega
 refine ⟨?_,?_,hs⟩
 ·unfold zab
  rw [if_pos hs]
  show (a++r).take 4=a
  rw [← h,List.take_left']
  rfl
 ·unfold zae
  rw [if_pos hs]
  show (a++r).drop 4=r
  rw [← h,List.drop_left']
  rfl
set_option maxRecDepth 20000 in
set_option maxHeartbeats 3000000 in
theorem zsx (w:World) (lo g:Nat) (l:List (Int × List UInt8)) (h:Rd w lo g (clB l) false) (hsz:∀ x∈l,x.2.length=16) (hf:l.all (fun x=>four x.1 x.2)=true) (hl:l.length≤32) :
  Calls Tryz.prog 160 #[.pointer (some ⟨g,0,none⟩),.int .i64 32,.func (.func 159) #[] #[]] w fun e w'=>∃ A c,e = .returned (.slice A l.length c)∧w'.ownsRow w.heap.size 25 17 (.slice A l.length c) l.length (za5 adL l)∧w.grownBy w' (some g):=by
 have hgl:=h.lt
 have H:=hide h
 have HF:=hide (List.all_eq_true.1 hf)
 have HSZ:=hide hsz
 have hlen:∀ k,(clB (l.drop k)).length=4*(l.length-k):=fun k=>by
  rw [zje (fun x hx=>hsz x (List.mem_of_mem_drop hx)) (List.all_eq_true.2 (fun x hx=>List.all_eq_true.1 hf x (List.mem_of_mem_drop hx))),List.length_drop]
 have HLEN:=hide hlen
 clear h hf hsz hlen
 obtain ⟨n,hn⟩:∃ n,l.length=n:=⟨_,rfl⟩
 rw [hn] at HLEN hl ⊢
 have HN:=hide hn
 clear hn
 go_enter Tryz.func160,Tryz.ntmps160
 go_wp2_with fail
 go_loopg [7] n (fun gg v wr=>∃ (k c:Nat) (A:Option Addr),v = .slice A k c∧k≤n∧n-k≤gg∧wr.ownsRow w.heap.size 25 17 (.slice A k c) k (za5 adL (l.take k))∧Rd wr lo g (clB (l.drop k)) false∧w.grownBy wr (some g))
 case atStart=>exact ⟨0,0,none,rfl,Nat.zero_le _,Nat.le_refl _,World.ownsRow_nil _ _ _ _,H.out,zac _ _⟩
 case round =>
  obtain ⟨k,c,A,rfl,hk,hgg,hown,hrd,hgr⟩:=hrel
  have HO:=hide hown
  have HR:=hide hrd
  have HG:=hide hgr
  obtain ⟨Ar,nr,cr,k0⟩:=hrd.open0
  clear hown hrd hgr k0
  have hlk:=HLEN.out k
  have hwz:=HG.out.size
  by_cases hlt:k<n
  ·have h0:(0:Int)<(((clB (l.drop k)).length:Nat):Int):=by omega
   have h32:((k:Nat):Int)<32:=by omega
   obtain ⟨x,hx⟩:∃ x,l[k]?=some x:=⟨_,List.getElem?_eq_getElem (by rw [HN.out];exact hlt)⟩
   have hmem:=List.mem_of_getElem? hx
   have hx16:=HSZ.out x hmem
   obtain ⟨h44,hx4,hxs,hxb⟩:=zgH hx16 (HF.out x hmem)
   obtain ⟨s1,s2,s3⟩:=step4 (r:=clB (l.drop (k+1))) hx4
   rw [← zs1 hx] at s1 s2 s3
   have S1:=hide s1
   have S2:=hide s2
   have S3:=hide s3
   have XS:=hide hxs
   have XB:=hide hxb
   have HX:=hide hx
   obtain ⟨LN,hLN⟩:∃ LN,(clB (l.drop k)).length=LN:=⟨_,rfl⟩
   rw [hLN] at h0
   have HLN:=hide hLN
   clear s1 s2 s3 hxs hxb hx4 hx hlk hLN h44
   go_wp2_with (go_at_call 98;refine (Rd.left HR.out).mono ?_;rw [HLN.out];rintro x wq ⟨rfl,rfl⟩)
   refine (zic wr lo g (clB (l.drop k)) false HR.out).mono ?_
   rw [S1.out,S2.out,S3.out,XS.out,XB.out]
   rintro e w2 ⟨rfl,hr2,hg2⟩
   have hr2':Rd w2 lo g (clB (l.drop (k+1))) false:=hr2
   have R2:=hide hr2'
   have O2:=hide (zbX HO.out hg2 (by
    cases h9:(Value.slice A k c).ownBlock with
    | none=>exact .inl rfl
    | some q=>exact .inr (fun e=>by injection e with e;have:=(HO.out.lt q h9).1;omega)))
   have G2:=hide (zaj HG.out hg2)
   have hz2:=Nat.le_trans hwz hg2.size
   have HLT:Hid (∀ q,(Value.slice A k c).ownBlock=some q→w.heap.size≤q∧q<wr.heap.size):=hide (fun q hq=>HO.out.lt q hq)
   clear hr2 hr2' hg2 HR HO HG
   have HW4:Hid (Below w2.heap.size w2 (w2.alloc (.cells (zaq x.1 x.2) 25))):=hide ((Below.refl _ _).alloc (Nat.le_refl _) _)
   have AN:AtG adL (w2.alloc (.cells (zaq x.1 x.2) 25)) w2.heap.size (w2.heap.size+1) (some ⟨w2.heap.size,0,none⟩) 1 [x]:=AtG.one (Blk.new w2 25 (zaq x.1 x.2))
   obtain ⟨v5,w5,hrun,ho5,hg5,hat5⟩:=zfJ (w2.alloc (.cells (zaq x.1 x.2) 25)) w.heap.size 26 (.slice A k c) k (l.take k) (za6 O2.out HW4.out) _ _ _ 1 1 [x] (fun y hy=>by rw [List.mem_singleton.1 hy];exact hx16) AN (by omega) (Nat.le_trans hz2 HW4.out.size)
   have HRUN:=hide hrun
   have ho5':w5.ownsRow w.heap.size 25 17 v5 (k+1) (za5 adL (l.take (k+1))):=by
    rw [List.take_add_one,HX.out]
    exact ho5
   have O5:=hide ho5'
   have R5:=hide ((R2.out.below HW4.out R2.out.lt).keep hg5 (fun q hq=>.inr (by have:=(HLT.out q hq).1;omega)))
   have G5:=hide (zcm (zaj G2.out (zaP HW4.out (some g))) hg5 (fun q hq=>(HLT.out q hq).1))
   clear hrun ho5 ho5' hg5 hat5 AN R2 O2 G2 HW4
   go_wp2_with (first
    | (with_reducible refine zbt rfl (zfR w2 (.tmp 22) rfl hx16 rfl) ?_)
    | (at_builtin;refine zaS rfl (.tmp 19) (.tmp 23) 26 26 26 rfl rfl rfl rfl HRUN.out ?_;refine Hid.out ?_))
   refine hide ?_
   obtain ⟨A5,c5,rfl,_,_⟩:=zaR O5.out
   go_wp2
   go_roundg (n-(k+1))
   case measure=>omega
   case rel=>exact ⟨k+1,c5,A5,rfl,by omega,Nat.le_refl _,O5.out,R5.out,G5.out⟩
  ·obtain rfl:k=n:=by omega
   have h0:¬ (0:Int)<(((clB (l.drop k)).length:Nat):Int):=by omega
   obtain ⟨LN,hLN⟩:∃ LN,(clB (l.drop k)).length=LN:=⟨_,rfl⟩
   rw [hLN] at h0
   have HLN:=hide hLN
   have HT:Hid (l.take k=l):=hide (List.take_of_length_le (by rw [HN.out];exact Nat.le_refl _))
   clear hlk hLN
   go_wp2_with (go_at_call 98;refine (Rd.left HR.out).mono ?_;rw [HLN.out];rintro x wq ⟨rfl,rfl⟩)
   go_ret
   exact ⟨A,c,rfl,by have:=HO.out;rw [HT.out] at this;exact this,HG.out⟩
end
end Go.Proofs.YtookpplebikfnaaGreatDoor
