/-
  What tells routes, read: Empty, tables of package update, in whatever memory. The one condition beyond sizes that fit memory: the program's table holds what its text lays.
  Routes that are taken for withdrawn: withdrawn of package update, in whatever memory. No condition beyond sizes that fit memory.
-/
import Derived.Test.YtjindligkhdddaaGreatDoorSDBL
set_option linter.unusedVariables false
set_option linter.unusedSimpArgs false
namespace Go.Proofs.YtjindligkhdddaaGreatDoor
section
open Go.RowKit
def zdl:UpP:=⟨zf0,none,0,0,[],none,0,0,[]⟩
theorem zcD:zdl.at_.ob.length=16:=rfl
abbrev zUpd:Array Value:=#[.int .i64 0,.slice none 0 0,.int .i64 0,.int .i64 0,.int .i64 0,.int .u8 0,.int .u8 0,.int .u8 0,.int .u8 0,.int .u8 0,.int .u8 0,.int .u8 0,.int .u8 0,.int .u8 0,.int .u8 0,.int .u8 0,.int .u8 0,.int .u8 0,.int .u8 0,.int .u8 0,.int .u8 0,.slice none 0 0,.slice none 0 0,.slice none 0 0,.slice none 0 0,.slice none 0 0]
theorem ztD:Tryz.prog.built 52 [(0,.agg (attC zf0))]=some (updC zdl):=by kernel_rfl
theorem zhJ {ops:Array Oper} {rest:List Oper} {o:Oper} {a:Act} {w:World} {Q:Exit→Act→World→Prop} (hgd:o.guard=none) (z:Operand) (ho:o.op = .build 52 #[(0,z)]) (hz:a.eval z = .agg (attC zf0))
  (hk:wpList Tryz.prog ops Q rest (a.put o.dst (.agg (updC zdl))) w):wpList Tryz.prog ops Q (o::rest) a w:=by
 refine wpList_plain hgd fun K hK'=>?_
 unfold Oper.wp execOp
 simp only [ho,List.map_toArray,List.map_cons,List.map_nil,hz,Sem.run_bind,run_build w _ _ _ ztD,Result.andThen_ok,Sem.run_pure]
 exact hK' _ _ hk
theorem zk6 {w:World} {g i:Nat} {u:UpP} (h:w.rangeAt g i (updL u)) (hl:u.at_.ob.length=16):(loadVar 52 ⟨g,i,none⟩).run Tryz.prog w = .ok (.agg (updC u)) w :=
 run_loadVar_mid w g i 52 (updL u) _ h Tryz.underlying52 rfl (zox hl)
theorem zoT {fn:Func} {R:Ending→World→Prop} {a:Act} {w:World} {c:Tmp} {g:Nat} {t:TypeId} {u:UpP} (hf:fn.results=#[.cell c 52])
  (hp:a.tmps.getD c undef = .pointer (some ⟨g,0,none⟩)) (h:Blk w g t (updC u)) (hl:u.at_.ob.length=16) (hd:a.defers=[]) (hR:R (.returned (.agg (updC u))) w) :
  bodyPost Tryz.prog fn R .ret a w:=by
 refine bodyPost_ret (v:=.agg (updC u)) ?_ hd hR
 have hp':a.tmps[c]?.getD undef = .pointer (some ⟨g,0,none⟩):=by simpa using hp
 simp [results,hf,hp',asAddr,zk6 (zah (l:=updL u) h) hl]
theorem zuM {fn:Func} {R:Ending→World→Prop} {a:Act} {w:World} {c q:Tmp} {g:Nat} {t:TypeId} {u:UpP} {v:Value} (hf:fn.results=#[.cell c 52,.tmp q])
  (hp:a.tmps.getD c undef = .pointer (some ⟨g,0,none⟩)) (hq:a.tmps.getD q undef=v) (h:Blk w g t (updC u)) (hl:u.at_.ob.length=16) (hd:a.defers=[]) (hR:R (.returned (.tuple #[.agg (updC u),v])) w) :
  bodyPost Tryz.prog fn R .ret a w:=by
 refine bodyPost_ret (v:=.tuple #[.agg (updC u),v]) ?_ hd hR
 have hp':a.tmps[c]?.getD undef = .pointer (some ⟨g,0,none⟩):=by simpa using hp
 have hq':a.tmps[q]?.getD undef=v:=by simpa using hq
 simp [results,hf,hp',hq',asAddr,zk6 (zah (l:=updL u) h) hl]
theorem zgN (w:World):Calls Tryz.prog 109 #[] w fun e w'=>e = .returned (.agg (updC zdl))∧Below w.heap.size w w':=by
 have N0:=hide (Blk.new w 52 zUpd)
 have W0:Hid (Below w.heap.size w (w.alloc (.cells zUpd 52))):=hide ((Below.refl _ _).alloc (Nat.le_refl _) _)
 go_enter Tryz.func109,Tryz.ntmps109
 go_wp2_with fail
 refine (zpc _).mono ?_
 rintro e w1 ⟨rfl,hb1⟩
 have N1:=hide (N0.out.over hb1)
 have W1:=hide (zaa W0.out hb1 (by simp))
 clear hb1 N0 W0
 go_wp2_with (first
  | (with_reducible refine zhJ rfl (.tmp 1) rfl rfl ?_)
  | (refine zaH rfl (.tmp 0) (.tmp 2) rfl w.heap.size rfl zdl rfl zcD N1.out rfl ?_;intro w2 hb2 hg2;have K2:=hide hb2;have G2:=hide hg2;clear hb2 hg2;refine Hid.out ?_))
 refine hide ?_
 go_wp2
 refine zoT (c:=0) rfl rfl K2.out zcD rfl ?_
 exact ⟨rfl,W1.out.grown G2.out W1.out.size (fun g hg=>by injection hg with hg;omega)⟩
def zch (s:List Tb × List Tb × Int) (x:Rw):List Tb × List Tb × Int :=
 if x.k=14 then (rdL true x.v,s.2.1,max s.2.2 (rdO true x.v)) else if x.k=15 then (s.1,rdL false x.v,max s.2.2 (rdO false x.v)) else (s.1,s.2.1,max s.2.2 0)
def tabs (l:List Rw):List Tb × List Tb × Int:=l.foldl zch ([],[],0)
theorem zrH {l:List Rw} {k:Nat} {x:Rw} (h:l[k]?=some x):tabs (l.take (k+1))=zch (tabs (l.take k)) x:=by
 unfold tabs
 rw [List.take_add_one,h,List.foldl_append]
 rfl
structure TbsS (w y:World) (ub:Nat) (U:UpP) (rs:List Rw):Prop where
 b:Blk y ub 52 (updC U)
 at_:UpAt y (ub+1) y.heap.size U
 res:Blk y w.heap.size 52 zUpd
 bl:Below w.heap.size w y
 hu:w.heap.size<ub
 ua:U.up.at_=zeV
 ur:U.up.re=(tabs rs).1
 un:U.up.un=(tabs rs).2.1
section
variable {w y z:World} {ub:Nat} {U:UpP} {rs:List Rw}
theorem TbsS.on (h:TbsS w y ub U rs) (hb:Below y.heap.size y z):TbsS w z ub U rs :=
 ⟨h.b.over hb,(h.at_.below hb).more (Nat.le_refl _) hb.size,h.res.over hb,zaa h.bl hb (Nat.le_refl _),h.hu,h.ua,h.ur,h.un⟩
theorem TbsS.c24 (h:TbsS w y ub U rs):y.cell? ⟨ub,24,none⟩=some (.slice U.rA U.rn U.rc):=by
 rw [h.b.cell];unfold updC;simpa using zii h.at_.ob
theorem TbsS.c25 (h:TbsS w y ub U rs):y.cell? ⟨ub,25,none⟩=some (.slice U.nA U.nn U.nc):=by
 rw [h.b.cell];unfold updC;simpa using zih h.at_.ob
theorem TbsS.fz (h:TbsS w y ub U rs) (i:Nat):y.frozen? ⟨ub,i,none⟩=false:=h.b.frozen i
theorem zrt {U:UpP} (h:U.at_.ob.length=16) (j:Nat) (hj:j<2) (v:Value):(updC U).setIfInBounds (24+j) v=(attL U.at_++([.slice U.rA U.rn U.rc,.slice U.nA U.nn U.nc].set j v)).toArray:=by
 apply Array.toList_inj.1
 rw [Array.toList_setIfInBounds]
 unfold updC updL
 show List.set _ (24+j) _=_
 rw [List.set_append_right _ _ (by rw [zba h];omega),zba h,show 24+j-24=j by omega]
theorem zrs {U:UpP} (h:U.at_.ob.length=16) (A:Option Addr) (n c:Nat) (l:List TbP):(updC U).setIfInBounds 24 (.slice A n c)=updC { U with rA:=A,rn:=n,rc:=c,re:=l }:=zrt h 0 (by decide) _
theorem zlM {U:UpP} (h:U.at_.ob.length=16) (A:Option Addr) (n c:Nat) (l:List TbP):(updC U).setIfInBounds 25 (.slice A n c)=updC { U with nA:=A,nn:=n,nc:=c,ne:=l }:=zrt h 1 (by decide) _
theorem TbsS.setr (h:TbsS w y ub U rs) {A:Option Addr} {n c:Nat} {l:List TbP} {lo:Nat} (hr:RowE tbL mTb wTb y lo y.heap.size A n l) (hlo:ub<lo) (hc:n≤c) (x:Rw) (hk:x.k=14) {rs':List Rw} (hx:tabs rs'=zch (tabs rs) x) (hl:l.map TbP.tb=rdL true x.v) :
  TbsS w (y.setCell ⟨ub,24,none⟩ (.slice A n c)) ub { U with rA:=A,rn:=n,rc:=c,re:=l } rs':=by
 have hg:y.grownBy (y.setCell ⟨ub,24,none⟩ (.slice A n c)) (some ub):=zao (zac _ _) (.inl rfl) _
 have hkp:∀ q:Addr,ub+1≤q.block→q.block<y.heap.size→(y.setCell ⟨ub,24,none⟩ (.slice A n c)).cell? q=y.cell? q:=fun q h1 h2=>World.cell?_of_block (hg.block q.block h2 (fun e=>by injection e;omega))
 have hb:=h.b.set_ 24 (.slice A n c)
 rw [zrs h.at_.ob A n c l] at hb
 have hat:=(h.at_.keep hkp).more (Nat.le_refl _) hg.size
 refine ⟨hb,⟨hat.at_,((hr.more mmTb (lo':=ub+1) hlo (Nat.le_refl _)).keep mkTb hkp).more mmTb (Nat.le_refl _) hg.size,hat.ne,hc,hat.nc⟩,h.res.grown hg (by have:=h.hu;simp;omega),h.bl.grown hg h.bl.size (fun g hg=>by injection hg with hg;have:=h.hu;omega),h.hu,h.ua,?_,?_⟩
 ·show l.map TbP.tb=_
  rw [hx,hl];unfold zch;rw [if_pos hk]
 ·rw [hx];unfold zch;rw [if_pos hk];exact h.un
theorem TbsS.setn (h:TbsS w y ub U rs) {A:Option Addr} {n c:Nat} {l:List TbP} {lo:Nat} (hr:RowE tbL mTb wTb y lo y.heap.size A n l) (hlo:ub<lo) (hc:n≤c) (x:Rw) (hk:x.k=15) {rs':List Rw} (hx:tabs rs'=zch (tabs rs) x) (hl:l.map TbP.tb=rdL false x.v) :
  TbsS w (y.setCell ⟨ub,25,none⟩ (.slice A n c)) ub { U with nA:=A,nn:=n,nc:=c,ne:=l } rs':=by
 have hg:y.grownBy (y.setCell ⟨ub,25,none⟩ (.slice A n c)) (some ub):=zao (zac _ _) (.inl rfl) _
 have hkp:∀ q:Addr,ub+1≤q.block→q.block<y.heap.size→(y.setCell ⟨ub,25,none⟩ (.slice A n c)).cell? q=y.cell? q:=fun q h1 h2=>World.cell?_of_block (hg.block q.block h2 (fun e=>by injection e;omega))
 have hb:=h.b.set_ 25 (.slice A n c)
 rw [zlM h.at_.ob A n c l] at hb
 have hat:=(h.at_.keep hkp).more (Nat.le_refl _) hg.size
 refine ⟨hb,⟨hat.at_,hat.re,((hr.more mmTb (lo':=ub+1) hlo (Nat.le_refl _)).keep mkTb hkp).more mmTb (Nat.le_refl _) hg.size,hat.rc,hc⟩,h.res.grown hg (by have:=h.hu;simp;omega),h.bl.grown hg h.bl.size (fun g hg=>by injection hg with hg;have:=h.hu;omega),h.hu,h.ua,?_,?_⟩
 ·rw [hx];unfold zch;rw [if_neg (by omega),if_pos hk];exact h.ur
 ·show l.map TbP.tb=_
  rw [hx,hl];unfold zch;rw [if_neg (by omega),if_pos hk]
theorem TbsS.pass (h:TbsS w y ub U rs) (x:Rw) (h4:x.k≠14) (h5:x.k≠15) {rs':List Rw} (hx:tabs rs'=zch (tabs rs) x):TbsS w y ub U rs' :=
 ⟨h.b,h.at_,h.res,h.bl,h.hu,h.ua,by rw [hx];unfold zch;rw [if_neg h4,if_neg h5];exact h.ur,by rw [hx];unfold zch;rw [if_neg h4,if_neg h5];exact h.un⟩
end
def zv2 (w:World) (rs:List Rw) (e:Ending) (w':World):Prop :=
 ∃ U:UpP,e = .returned (.tuple #[.agg (updC U),.int .i64 (tabs rs).2.2])∧UpAt w' w.heap.size w'.heap.size U∧U.up=⟨zeV,(tabs rs).1,(tabs rs).2.1⟩∧Below w.heap.size w w'
abbrev zRaw:Array Value:=#[.int .i64 0,.int .i64 0,.slice none 0 0]
set_option maxRecDepth 20000 in
set_option maxHeartbeats 4000000 in
theorem zpL (w:World) (lo hi:Nat) (A:Option Addr) (n c:Nat) (l:List RawP) (h:zbV w lo hi A n l) (hh:hi≤w.heap.size) (hn:n≤100000) (hv:∀ x∈l,x.v.length≤1000000000) (hN:za0 w) :
  Calls Tryz.prog 75 #[.slice A n c] w (zv2 w (l.map RawP.raw)):=by
 have H:=hide h
 have HL:=hide h.len
 have HV:=hide hv
 have HN:=hide hN
 have N0:=hide (Blk.new w 52 zUpd)
 have W0:Hid (Below w.heap.size w (w.alloc (.cells zUpd 52))):=hide ((Below.refl _ _).alloc (Nat.le_refl _) _)
 clear h hv hN
 go_enter Tryz.func75,Tryz.ntmps75
 go_wp2_with fail
 refine (zgN _).mono ?_
 rintro e w1 ⟨rfl,hb1⟩
 have N1:=hide (N0.out.over hb1)
 have W1:=hide (zaa W0.out hb1 (by simp))
 have HZ1:Hid (w.heap.size<w1.heap.size):=hide N1.out.lt
 have NEW:=hide (Blk.new w1 52 zUpd)
 clear hb1 N0 W0
 go_wp2_with (refine zaH rfl (.tmp 4) (.tmp 9) rfl w1.heap.size rfl zdl rfl zcD NEW.out rfl ?_;intro w2 hb2 hg2;have K2:=hide hb2;have W2:Hid (Below w1.heap.size w1 w2):=hide (((Below.refl _ _).alloc (Nat.le_refl _) _).grown hg2 (by simp) (by simp));clear hb2 hg2;refine Hid.out ?_)
 refine hide ?_
 have S2:Hid (TbsS w w2 w1.heap.size zdl []):=hide ⟨K2.out,⟨ziT _ _ _,RowE.nil _ _ _ _,RowE.nil _ _ _ _,Nat.le_refl _,Nat.le_refl _⟩,N1.out.over W2.out,zaa W1.out W2.out (Nat.le_refl _),HZ1.out,rfl,rfl,rfl⟩
 generalize w1.heap.size=ub at *
 clear K2 W2 NEW N1 W1 HZ1
 go_wp2_with fail
 go_loopw [5,12] (fun v i wr=>∃ (k:Nat) (U:UpP),k≤n∧v = .int .i64 (tabs ((l.map RawP.raw).take k)).2.2∧i = .int .i64 k∧TbsS w wr ub U ((l.map RawP.raw).take k)) (fun _ i _=>n-(intOf i).toNat)
 case atStart=>exact ⟨0,zdl,Nat.zero_le _,rfl,rfl,S2.out⟩
 case round =>
  obtain ⟨k,U,hk,rfl,rfl,hs⟩:=hrel
  have S:=hide hs
  clear hs
  by_cases hlt:k<n
  ·have hkl:((k:Nat):Int)<(n:Int):=by omega
   have YR:=hide (H.out.below (S.out.bl.mono hh))
   obtain ⟨b,o,x,rfl,_,_,hx,hat,hval,hcap⟩:=YR.out.at_ hlt
   have HX:Hid ((l.map RawP.raw)[k]?=some x.raw):=hide (by rw [List.getElem?_map,hx];rfl)
   have HXV:=hide (HV.out x (List.mem_of_getElem? hx))
   have HAT:=hide hat
   have HVAL:=hide hval
   have HNX:=hide (zrH HX.out)
   generalize hT:tabs ((l.map RawP.raw).take k)=T at *
   have HT:=hide hT
   have NEW:=hide (Blk.new wr 175 zRaw)
   have HLX:=hide hval.len
   clear hx hat hval YR hT
   go_wp2_with (first
    | (with_reducible refine zcf rfl (.tmp 14) rfl rfl HAT.out ?_)
    | (refine zcA rfl (.tmp 7) (.tmp 15) rfl wr.heap.size rfl x rfl NEW.out rfl ?_;intro w3 hb3 hg3;have K3:=hide hb3;have W3:Hid (Below wr.heap.size wr w3):=hide (((Below.refl _ _).alloc (Nat.le_refl _) _).grown hg3 (by simp) (by simp));clear hb3 hg3;refine Hid.out ?_))
   refine hide ?_
   have S3:=hide (S.out.on W3.out)
   have V3:=hide (HVAL.out.below (W3.out.mono (Nat.le_trans hh S.out.bl.size)))
   have N3:=hide (HN.out.below S3.out.bl)
   have k1:w3.cell? ⟨wr.heap.size,1,none⟩=some (.int .i64 x.k):=K3.out.cell 1
   have k2:w3.cell? ⟨wr.heap.size,2,none⟩=some (.slice x.A x.n x.c):=K3.out.cell 2
   have hh3:hi≤w3.heap.size:=Nat.le_trans hh S3.out.bl.size
   have hxn:x.n≤1000000000:=by have:=HXV.out;have:=HLX.out;omega
   have HU3:=hide S3.out.b.lt
   obtain ⟨F,K,A9,n9,c9,v9⟩:=x
   dsimp only at k1 k2 hxn hcap
   clear K3 W3 S HVAL HXV HLX NEW HAT
   by_cases h14:K=14
   ·subst h14
    have HX2:Hid ((tabs ((l.map RawP.raw).take (k+1))).2.2=max T.2.2 (rdO true v9)):=hide (by rw [HNX.out];rfl)
    go_wp2_with fail
    refine (ziJ w3 lo hi A9 n9 c9 v9 true V3.out hh3 hxn N3.out).mono ?_
    rintro e w4 ⟨A4,n4,c4,l4,rfl,hr4,hc4,hl4,hb4⟩
    have S4:=hide (S3.out.on hb4)
    have k24:=S4.out.c24
    have f24:=S4.out.fz 24
    have HS5:=hide (S4.out.setr hr4 (lo:=w3.heap.size) HU3.out hc4 ⟨F,14,v9⟩ rfl (rs':=(l.map RawP.raw).take (k+1)) (by rw [HT.out];exact HNX.out) hl4)
    generalize rdO true v9=ro at *
    clear hr4 hc4 hl4 hb4 S3 V3 N3
    go_wp2_with fail
    go_roundw
    case rel=>exact ⟨k+1,_,by omega,by rw [HX2.out],by go_num,HS5.out⟩
    case measure=>simp [intOf];omega
   ·by_cases h15:K=15
    ·subst h15
     have HX2:Hid ((tabs ((l.map RawP.raw).take (k+1))).2.2=max T.2.2 (rdO false v9)):=hide (by rw [HNX.out];rfl)
     go_wp2_with fail
     refine (ziJ w3 lo hi A9 n9 c9 v9 false V3.out hh3 hxn N3.out).mono ?_
     rintro e w4 ⟨A4,n4,c4,l4,rfl,hr4,hc4,hl4,hb4⟩
     have S4:=hide (S3.out.on hb4)
     have k25:=S4.out.c25
     have f25:=S4.out.fz 25
     have HS5:=hide (S4.out.setn hr4 (lo:=w3.heap.size) HU3.out hc4 ⟨F,15,v9⟩ rfl (rs':=(l.map RawP.raw).take (k+1)) (by rw [HT.out];exact HNX.out) hl4)
     generalize rdO false v9=ro at *
     clear hr4 hc4 hl4 hb4 S3 V3 N3
     go_wp2_with fail
     go_roundw
     case rel=>exact ⟨k+1,_,by omega,by rw [HX2.out],by go_num,HS5.out⟩
     case measure=>simp [intOf];omega
    ·have HS5:=hide (S3.out.pass ⟨F,K,v9⟩ h14 h15 (rs':=(l.map RawP.raw).take (k+1)) (by rw [HT.out];exact HNX.out))
     have HX2:Hid ((tabs ((l.map RawP.raw).take (k+1))).2.2=max T.2.2 0):=hide (by rw [HNX.out];unfold zch;rw [if_neg (show ¬ (RawP.raw ⟨F,K,A9,n9,c9,v9⟩).k=14 from h14),if_neg (show ¬ (RawP.raw ⟨F,K,A9,n9,c9,v9⟩).k=15 from h15)])
     go_wp2_with fail
     go_roundw
     case rel=>exact ⟨k+1,U,by omega,by rw [HX2.out],by go_num,HS5.out⟩
     case measure=>simp [intOf];omega
  ·obtain rfl:k=n:=by omega
   have hkl:¬ ((k:Nat):Int)<(k:Int):=by omega
   have HOB:=hide S.out.at_.ob
   have RG:=hide (zah (l:=updL U) S.out.b)
   have HTK:Hid ((l.map RawP.raw).take k=l.map RawP.raw):=hide (List.take_of_length_le (by rw [List.length_map,HL.out];exact Nat.le_refl _))
   go_wp2_with (first
    | ((with_reducible refine zbX ?_ (.tmp 4) rfl ub 0 rfl U RG.out HOB.out ?_);· rfl)
    | (refine zaH rfl (.tmp 2) (.tmp 40) rfl w.heap.size rfl U rfl HOB.out S.out.res rfl ?_;intro w3 hb3 hg3;have K3:=hide hb3;have G3:=hide hg3;clear hb3 hg3;refine Hid.out ?_))
   refine hide ?_
   go_wp2
   refine zuM (c:=2) (q:=3) (v:=.int .i64 _) rfl rfl rfl K3.out HOB.out rfl ?_
   have hbz:=S.out.bl.grown G3.out S.out.bl.size (fun g hg=>by injection hg with hg;omega)
   refine ⟨U,by rw [HTK.out],?_,?_,hbz⟩
   ·exact (S.out.at_.keep (fun q h1 h2=>World.cell?_of_block (G3.out.block q.block h2 (fun e=>by injection e with e;have:=S.out.hu;omega)))).more (by have:=S.out.hu;omega) G3.out.size
   ·have e1:=S.out.ua
    have e2:=S.out.ur
    have e3:=S.out.un
    rw [HTK.out] at e2 e3
    cases hU:U.up
    rw [hU] at e1 e2 e3
    simp only at e1 e2 e3
    rw [e1,e2,e3]
end
section
open Go.RowKit
theorem zur:(Tryz.prog.info? 162).map (fun i=>(i.zero.map (·.cells.size),i.size,i.bytes))=some (some 21,21,88):=by kernel_rfl
theorem zpM:∃ (i:TypeInfo) (z:Value),Tryz.prog.info? 162=some i∧i.zero=some z∧i.size=21∧i.bytes=88∧z.cells.size=21:=by
 have h:=zur
 cases hq:Tryz.prog.info? 162 with
 | none=>rw [hq] at h;cases h
 | some i =>
  rw [hq] at h
  simp only [Option.map_some,Option.some.injEq,Prod.mk.injEq] at h
  cases hz:i.zero with
  | none=>rw [hz] at h;simp at h
  | some z =>
   rw [hz] at h
   simp at h
   exact ⟨i,z,rfl,hz,h.2.1,h.2.2,h.1⟩
theorem ziz (w:World) (base:Nat) (v:Value) (n:Nat) (xs:List TbP) (hown:w.ownsRow base 162 21 v n (zaX tbL xs)) (lo hi':Nat) (A:Option Addr) (m c:Nat) (news:List TbP) (hr:AtG tbL w lo hi' A m news)
  (hs:∀ y∈news,wTb y) (hb:n+m≤1000000000) (hbase:base≤w.heap.size) :
  ∃ v' w',(Builtin.append_ #[50,50] 50 #[v,.slice A m c]).run Tryz.prog w = .ok v' w'∧w'.ownsRow base 162 21 v' (n+m) (zaX tbL (xs++news))∧w.grownBy w' v.ownBlock∧(v'.ownBlock=v.ownBlock∨v'.ownBlock=some w.heap.size):=by
 obtain ⟨i,z,hi,hz,h1,h2,h3⟩:=zpM
 exact zbL (P:=Tryz.prog) w base 50 50 162 i z 88 Tryz.underlying50 hi hz h1 h2 h3 (by decide) v n xs hown lo hi' A m c news hr (fun y hy=>zrx (hs y hy)) (fun y hy=>znh y) (by omega) (by unfold maxLen;omega) hbase
abbrev zTbG:Array Value:=#[.int .i64 0,.int .i64 0,.int .i64 0,.int .u8 0,.int .u8 0,.int .u8 0,.int .u8 0,.int .u8 0,.int .u8 0,.int .u8 0,.int .u8 0,.int .u8 0,.int .u8 0,.int .u8 0,.int .u8 0,.int .u8 0,.int .u8 0,.int .u8 0,.int .u8 0,.slice none 0 0,.slice none 0 0]
def zg3 (x:TbP):TbP:={ x with ns:=0,nb:=zat }
def tbT (x:TbP):List Value:=[.int .i64 x.s,.int .i64 x.f]
def gonV (A:Option Addr) (c:Nat) (xs:List TbP):UpP:={ zdl with nA:=A,nn:=xs.length,nc:=c,ne:=xs }
theorem ztb (A:Option Addr) (c:Nat) (xs:List TbP):(updC (gonV A c xs))[25]?=some (.slice A xs.length c):=by
 have e:=zih (u:=gonV A c xs) rfl
 unfold updC
 rw [List.getElem?_toArray]
 exact e
theorem zpG {l:List TbP} {x:TbP} (h:l[0]?=some x):l.take 1=[x]:=by
 cases l with
 | nil=>simp at h
 | cons y r =>
  have e:y=x:=by simpa using h
  subst e
  rfl
structure GnS (w y:World) (lo hi gb:Nat) (u:UpP) (A:Option Addr) (c:Nat) (xs:List TbP):Prop where
 s:UpS w y lo hi u
 b:Blk y gb 52 (updC (gonV A c xs))
 o:y.ownsRow (gb+1) 162 21 (.slice A xs.length c) xs.length (zaX tbL xs)
 m:∀ x∈xs,mTb y lo hi x∧wTb x
 hg:w.heap.size+1<gb
 res:Blk y (w.heap.size+1) 52 zUpd
section
variable {w y z:World} {lo hi gb c:Nat} {u:UpP} {A:Option Addr} {xs:List TbP}
theorem GnS.on (h:GnS w y lo hi gb u A c xs) (hb:Below y.heap.size y z):GnS w z lo hi gb u A c xs :=
 ⟨h.s.on hb,h.b.over hb,za8 h.o hb,fun x hx=>⟨mkTb _ _ _ _ _ (fun p _ hp=>hb.cell (by have:=h.s.here;omega)) (h.m x hx).1,(h.m x hx).2⟩,h.hg,h.res.over hb⟩
theorem GnS.c25 (h:GnS w y lo hi gb u A c xs):y.cell? ⟨gb,25,none⟩=some (.slice A xs.length c):=by
 rw [h.b.cell];exact ztb A c xs
theorem GnS.append (h:GnS w y lo hi gb u A c xs) (B:Option Addr) (n d:Nat) (news:List TbP) {l h':Nat} (hr:AtG tbL y l h' B n news) (hm:∀ x∈news,mTb y lo hi x∧wTb x) (hb:xs.length+n≤1000000000) :
  ∃ A' c' w',(Builtin.append_ #[50,50] 50 #[.slice A xs.length c,.slice B n d]).run Tryz.prog y = .ok (.slice A' (xs.length+n) c') w'∧w'.cell? ⟨gb,25,none⟩=some (.slice A xs.length c)∧w'.frozen? ⟨gb,25,none⟩=false ∧
   GnS w (w'.setCell ⟨gb,25,none⟩ (.slice A' (xs.length+n) c')) lo hi gb u A' c' (xs++news):=by
 have hbz:=h.b.lt
 obtain ⟨v',w',hrun,ho,hg,hat⟩:=ziz y (gb+1) _ _ xs h.o l h' B n d news hr (fun x hx=>(hm x hx).2) hb (by omega)
 obtain ⟨A',c',rfl,hcc,_⟩:=zaQ ho
 have hlen:(xs++news).length=xs.length+n:=by rw [List.length_append,hr.len]
 have hblk:∀ k,(Value.slice A xs.length c).ownBlock=some k→gb<k:=fun k hk=>by have:=(h.o.lt k hk).1;omega
 have hblk':∀ k,(Value.slice A' (xs.length+n) c').ownBlock=some k→gb<k:=fun k hk=>by have:=(ho.lt k hk).1;omega
 have hgs:=hg.size
 have b2:Blk w' gb 52 (updC (gonV A c xs)):=h.b.grown hg (fun e=>by have:=hblk _ e.symm;omega)
 have s2:UpS w w' lo hi u:=h.s.grown hg (fun k hk=>by have:=hblk k hk;have:=h.hg;omega)
 have m2:∀ x,mTb y lo hi x→mTb w' lo hi x:=fun x hx=>mkTb _ _ _ _ _ (fun p _ hp=>World.cell?_of_block (hg.block p.block (by have:=h.s.here;omega) (fun e=>by have:=hblk _ e.symm;have:=h.hg;have:=h.s.hh;omega))) hx
 have r2:Blk w' (w.heap.size+1) 52 zUpd:=h.res.grown hg (fun e=>by have:=hblk _ e.symm;have:=h.hg;omega)
 have hst:w'.grownBy (w'.setCell ⟨gb,25,none⟩ (.slice A' (xs.length+n) c')) (some gb):=zao (zac _ _) (.inl rfl) _
 refine ⟨A',c',w',hrun,by rw [b2.cell];exact ztb A c xs,b2.frozen 25,⟨s2.grown hst (fun k hk=>by injection hk with hk;have:=h.hg;omega),?_,?_,?_,h.hg,r2.grown hst (by have:=h.hg;simp;omega)⟩⟩
 ·have h1:=b2.set_ 25 (.slice A' (xs.length+n) c')
  rw [zlM (U:=gonV A c xs) rfl A' (xs.length+n) c' (xs++news)] at h1
  have e:gonV A' c' (xs++news)={ gonV A c xs with nA:=A',nn:=xs.length+n,nc:=c',ne:=xs++news }:=by unfold gonV;rw [hlen]
  rw [e];exact h1
 ·rw [hlen]
  exact zbW ho hst (by
   cases hq:(Value.slice A' (xs.length+n) c').ownBlock with
   | none=>exact .inl rfl
   | some k=>exact .inr (fun e=>by injection e with e;have:=hblk' k hq;omega))
 ·intro x hx
  have h3:mTb y lo hi x∧wTb x:=by
   rcases List.mem_append.1 hx with hx | hx
   ·exact h.m x hx
   ·exact hm x hx
  exact ⟨mkTb _ _ _ _ _ (fun p _ hp=>World.cell?_of_block (hst.block p.block (by have:=h.s.here;omega) (fun e=>by injection e with e;have:=h.hg;have:=h.s.hh;omega))) (m2 x h3.1),h3.2⟩
end
def zv6 (w:World) (lo hi:Nat) (u:UpP) (e:Ending) (w':World):Prop :=
 ∃ (A:Option Addr) (c:Nat) (xs:List TbP),e = .returned (.agg (updC (gonV A c xs)))∧AtG tbL w' w.heap.size w'.heap.size A xs.length xs∧(∀ x∈xs,mTb w' lo hi x∧wTb x)∧xs.length≤c∧xs.map TbP.tb=u.up.re.map zi4++u.up.un∧Below w.heap.size w w'
set_option maxRecDepth 20000 in
set_option maxHeartbeats 4000000 in
theorem zvs (w:World) (lo hi:Nat) (u:UpP) (h:UpAt w lo hi u) (hh:hi≤w.heap.size) (hrn:u.rn≤1) (hnn:u.nn≤1000) :
  Calls Tryz.prog 76 #[.agg (updC u)] w (zv6 w lo hi u):=by
 obtain ⟨P0,rA,rn,rc,re,nA,nn,nc,ne⟩:=u
 have S0:=hide (UpS.start h hh)
 have HOB:P0.ob.length=16:=h.ob
 have HLR:Hid (re.length=rn):=hide h.re.len
 have HLN:Hid (ne.length=nn):=hide h.ne.len
 dsimp only at hrn hnn
 have e1:(w.alloc (.cells (updC ⟨P0,rA,rn,rc,re,nA,nn,nc,ne⟩) 52)).heap.size=w.heap.size+1:=by simp
 have R0:=Blk.new (w.alloc (.cells (updC ⟨P0,rA,rn,rc,re,nA,nn,nc,ne⟩) 52)) 52 zUpd
 rw [e1] at R0
 have S1:=hide (S0.out.new (.cells zUpd 52))
 have RB:=hide R0
 clear h S0 R0
 go_enter Tryz.func76,Tryz.ntmps76
 go_wp2_with fail
 refine (zgN _).mono ?_
 rintro e w1 ⟨rfl,hb1⟩
 have S2:=hide (S1.out.on hb1)
 have RB2:=hide (RB.out.over hb1)
 have NEW:=hide (Blk.new w1 52 zUpd)
 have HZ1:=hide RB2.out.lt
 clear hb1 S1 RB
 go_wp2_with (refine zaH rfl (.tmp 3) (.tmp 6) rfl w1.heap.size rfl zdl rfl zcD NEW.out rfl ?_;intro w2 hb2 hg2;have K2:=hide hb2;have W2:Hid (Below w1.heap.size w1 w2):=hide (((Below.refl _ _).alloc (Nat.le_refl _) _).grown hg2 (by simp) (by simp));clear hb2 hg2;refine Hid.out ?_)
 refine hide ?_
 have G2:Hid (GnS w w2 lo hi w1.heap.size ⟨P0,rA,rn,rc,re,nA,nn,nc,ne⟩ none 0 []):=hide ⟨S2.out.on W2.out,K2.out,World.ownsRow_nil _ _ _ _,(fun x hx=>by cases hx),HZ1.out,RB2.out.over W2.out⟩
 generalize w1.heap.size=gb at *
 have c24:=G2.out.s.c24
 clear K2 W2 NEW S2 RB2 HZ1 e1
 go_wp2_with fail
 go_loopw [10] (fun i wr=>∃ (k c:Nat) (A:Option Addr) (xs:List TbP),k≤rn∧i = .int .i64 k∧xs.length=k∧xs.map TbP.tb=((re.take k).map TbP.tb).map zi4∧GnS w wr lo hi gb ⟨P0,rA,rn,rc,re,nA,nn,nc,ne⟩ A c xs) (fun i _=>rn-(intOf i).toNat)
 case atStart=>exact ⟨0,0,none,[],Nat.zero_le _,rfl,rfl,rfl,G2.out⟩
 case round =>
  obtain ⟨k,c,A,xs,hk,rfl,hxl,hxt,hgn⟩:=hrel
  have G:=hide hgn
  have HXL:=hide hxl
  have HXT:=hide hxt
  clear hgn hxl hxt
  by_cases hlt:k<rn
  ·obtain rfl:k=0:=by omega
   have hkl:((0:Nat):Int)<(rn:Int):=by omega
   obtain ⟨b,o,x,rfl,hb1,hb2,hx,hat⟩:=G.out.s.at_.re.row.at_ (sz:=21) (fun y hy=>zrx (G.out.s.at_.re.sz y hy)) hlt
   have hmem:=List.mem_of_getElem? hx
   have HM:=hide (G.out.s.at_.re.mem x hmem)
   have HW:=hide (G.out.s.at_.re.sz x hmem)
   have XN:=hide (zf8 HW.out)
   have HX:=hide hx
   rw [Nat.zero_mul,Nat.add_zero] at hat
   have HAT:=hide hat
   have NEW:=hide (Blk.new wr 162 zTbG)
   have XA:=hide (zo0 XN.out)
   clear hx hat hmem
   go_wp2_with (first
    | ((with_reducible refine zaF ?_ (.tmp 12) rfl b o rfl x HAT.out XN.out ?_);· rfl)
    | (refine zdy rfl (.tmp 5) (.tmp 13) rfl wr.heap.size rfl x rfl XN.out NEW.out rfl ?_;intro w3 hb3 hg3;have K3:=hide hb3;have W3:Hid (Below wr.heap.size wr w3):=hide (((Below.refl _ _).alloc (Nat.le_refl _) _).grown hg3 (by simp) (by simp));clear hb3 hg3;refine Hid.out ?_))
   refine hide ?_
   have G3:=hide (G.out.on W3.out)
   have M3:=hide (mkTb _ _ _ _ _ (fun p _ hp=>W3.out.cell (by have:=G.out.s.here;omega)) HM.out)
   have K3':Hid (Blk w3 wr.heap.size 162 (tbT x++(rdrA x++rdrR x)).toArray):=hide K3.out
   clear NEW HM HAT G3 K3
   have HB3:=hide W3.out.size
   go_wp2_with (refine zd0 rfl (.tmp 15) (.tmp 14) rfl wr.heap.size 2 rfl 0 zat rfl rfl (tbT x) (rdrA x) (rdrR x) K3'.out rfl XA.out ?_;intro w4 hb4 hg4;have K4:Hid (Blk w4 wr.heap.size 162 (tbC (zg3 x))):=hide hb4;have W4:=hide (W3.out.grown hg4 W3.out.size (fun q e=>by injection e with e;omega));have HG4:=hide hg4;clear hb4 hg4;refine Hid.out ?_)
   refine hide ?_
   have G4:=hide (G.out.on W4.out)
   have M4:Hid (mTb w4 lo hi (zg3 x)):=hide (mkTb _ _ _ _ _ (fun p _ hp=>HG4.out.block p.block (by have:=G.out.s.here;have:=HB3.out;omega) (fun e=>by injection e with e;have:=G.out.s.here;omega) |> fun h9=>World.cell?_of_block h9) M3.out)
   have Z4:Hid (wTb (zg3 x)):=hide (gone_W HW.out)
   have k25:=G4.out.c25
   have RG4:=hide (zah (l:=tbL (zg3 x)) K4.out)
   have G5:=hide (G4.out.on ((Below.refl _ _).alloc (Nat.le_refl _) (.cells (tbC (zg3 x)) 162)))
   have HA5:Hid (Below w4.heap.size w4 (w4.alloc (.cells (tbC (zg3 x)) 162))):=hide ((Below.refl _ _).alloc (Nat.le_refl _) _)
   obtain ⟨A6,c6,w6,hrun,hk6,hf6,hg6⟩:=G5.out.append (some ⟨w4.heap.size,0,none⟩) 1 1 [zg3 x] (AtG.one (Blk.new w4 162 (tbC (zg3 x)))) (fun y hy=>by rw [List.mem_singleton.1 hy];exact ⟨mkTb _ _ _ _ _ (fun p _ hp=>HA5.out.cell (by have:=G4.out.s.here;omega)) M4.out,Z4.out⟩) (by rw [HXL.out];decide)
   have HRUN:=hide hrun
   have G6:=hide hg6
   have hx0:xs=[]:=List.eq_nil_of_length_eq_zero HXL.out
   have HXT6:Hid ((xs++[zg3 x]).map TbP.tb=((re.take 1).map TbP.tb).map zi4):=hide (by rw [hx0,zpG HX.out];rfl)
   have HXL6:Hid ((xs++[zg3 x]).length=1):=hide (by rw [hx0];rfl)
   clear hrun hg6 G5 K3' M3 W4 HG4 hx0
   go_wp2_with (first
    | ((with_reducible refine zaF ?_ (.tmp 5) rfl wr.heap.size 0 rfl (zg3 x) RG4.out rfl ?_);· rfl)
    | ((with_reducible refine zdh ?_ (.tmp 18) rfl (zg3 x) rfl rfl ?_);· rfl)
    | (at_builtin;refine zbK rfl (.tmp 17) (.tmp 19) 50 50 50 rfl rfl rfl rfl HRUN.out ?_;refine Hid.out ?_))
   refine hide ?_
   go_wp2
   go_roundw
   case rel=>exact ⟨1,c6,A6,xs++[zg3 x],hlt,by go_num,HXL6.out,HXT6.out,G6.out⟩
   case measure=>simp [intOf];omega
  ·obtain rfl:k=rn:=by omega
   have hkl:¬ ((k:Nat):Int)<(k:Int):=by omega
   have HTK:Hid (re.take k=re):=hide (List.take_of_length_le (by rw [HLR.out];exact Nat.le_refl _))
   have k25:=G.out.c25
   have l25:=G.out.s.c25
   obtain ⟨A6,c6,w6,hrun,hk6,hf6,hg6⟩:=G.out.append nA nn nc ne G.out.s.at_.ne.row (fun y hy=>⟨G.out.s.at_.ne.mem y hy,G.out.s.at_.ne.sz y hy⟩) (by rw [HXL.out];omega)
   have HRUN:=hide hrun
   have G6:=hide hg6
   have RG6:=hide (zah (l:=updL (gonV A6 c6 (xs++ne))) G6.out.b)
   clear hrun hg6
   go_wp2_with (at_builtin;refine zbK rfl (.tmp 24) (.tmp 26) 50 50 50 rfl rfl rfl rfl HRUN.out ?_;refine Hid.out ?_)
   refine hide ?_
   go_wp2_with (first
    | ((with_reducible refine zbX ?_ (.tmp 3) rfl gb 0 rfl (gonV A6 c6 (xs++ne)) RG6.out rfl ?_);· rfl)
    | (refine zaH rfl (.tmp 2) (.tmp 29) rfl (w.heap.size+1) rfl (gonV A6 c6 (xs++ne)) rfl rfl G6.out.res rfl ?_;intro w7 hb7 hg7;have K7:=hide hb7;have G7:=hide hg7;clear hb7 hg7;refine Hid.out ?_))
   refine hide ?_
   go_wp2
   refine zoT (c:=2) rfl rfl K7.out rfl rfl ?_
   have hbl:=G6.out.s.bl.grown G7.out G6.out.s.bl.size (fun q hq=>by injection hq with hq;omega)
   have hkp:∀ q:Addr,gb+1≤q.block→q.block<(w6.setCell ⟨gb,25,none⟩ (.slice A6 (xs.length+nn) c6)).heap.size→w7.cell? q=(w6.setCell ⟨gb,25,none⟩ (.slice A6 (xs.length+nn) c6)).cell? q:=fun q h1 h2=>World.cell?_of_block (G7.out.block q.block h2 (fun e=>by injection e with e;have:=G6.out.hg;omega))
   obtain ⟨_,_,hv,hcc,_⟩:=zaQ G6.out.o
   injection hv with _ _ hv
   refine ⟨A6,c6,xs++ne,rfl,((AtG.own (fun y hy=>zrx (G6.out.m y hy).2) rfl G6.out.o).keep hkp).more (by have:=G6.out.hg;omega) G7.out.size,fun y hy=>⟨?_,(G6.out.m y hy).2⟩,by rw [← hv] at hcc;exact hcc,?_,hbl⟩
   ·exact mkTb _ _ _ _ _ (fun p _ hp=>World.cell?_of_block (G7.out.block p.block (by have:=G6.out.s.here;omega) (fun e=>by injection e with e;omega))) (G6.out.m y hy).1
   ·rw [List.map_append,HXT.out,HTK.out]
    rfl
end
end Go.Proofs.YtjindligkhdddaaGreatDoor
