/-
  What tells routes, read: Empty, tables of package update, in whatever memory. The one condition beyond sizes that fit memory: the program's table holds what its text lays.
  Routes that are taken for withdrawn: withdrawn of package update, in whatever memory. No condition beyond sizes that fit memory.
-/
import Derived.Test.YtplpglfjcieloaaGreatDoorKSBK
set_option linter.unusedVariables false
set_option linter.unusedSimpArgs false
namespace Go.Proofs.YtplpglfjcieloaaGreatDoor
open Tryz
section
open Go.RowKit
def zdo:UpP:=⟨zgg,none,0,0,[],none,0,0,[]⟩
theorem zcH:zdo.at_.ob.length=16:=rfl
abbrev zUpd:Array Value:=#[.int .i64 0,.slice none 0 0,.int .i64 0,.int .i64 0,.int .i64 0,.int .u8 0,.int .u8 0,.int .u8 0,.int .u8 0,.int .u8 0,.int .u8 0,.int .u8 0,.int .u8 0,.int .u8 0,.int .u8 0,.int .u8 0,.int .u8 0,.int .u8 0,.int .u8 0,.int .u8 0,.int .u8 0,.slice none 0 0,.slice none 0 0,.slice none 0 0,.slice none 0 0,.slice none 0 0]
theorem ztZ:prog.built 38 [(0,.agg (attC zgg))]=some (updC zdo):=by kernel_rfl
theorem zhX {ops:Array Oper} {rest:List Oper} {o:Oper} {a:Act} {w:World} {Q:Exit→Act→World→Prop} (b:o.guard=none) (z:Operand) (g:o.op = .build 38 #[(0,z)]) (e:a.eval z = .agg (attC zgg))
  (f:wpList prog ops Q rest (a.put o.dst (.agg (updC zdo))) w):wpList prog ops Q (o::rest) a w:=by
 refine wpList_plain b fun K d=>?_
 unfold Oper.wp execOp
 simp only [g,List.map_toArray,List.map_cons,List.map_nil,e,Sem.run_bind,run_build w _ _ _ ztZ,Result.andThen_ok,Sem.run_pure]
 exact d _ _ f
theorem zly {w:World} {g i:Nat} {u:UpP} (h:w.rangeAt g i (updL u)) (a:u.at_.ob.length=16):(loadVar 38 ⟨g,i,none⟩).run prog w = .ok (.agg (updC u)) w :=
 run_loadVar_mid w g i 38 (updL u) _ h underlying38 rfl (zoT a)
theorem zpd {fn:Func} {R:Ending→World→Prop} {a:Act} {w:World} {c:Tmp} {g:Nat} {t:TypeId} {u:UpP} (e:fn.results=#[.cell c 38])
  (hp:a.tmps.getD c undef = .pointer (some ⟨g,0,none⟩)) (h:Blk w g t (updC u)) (d:u.at_.ob.length=16) (hd:a.defers=[]) (hR:R (.returned (.agg (updC u))) w) :
  bodyPost prog fn R .ret a w:=by
 refine bodyPost_ret (v:=.agg (updC u)) ?_ hd hR
 have b:a.tmps[c]?.getD undef = .pointer (some ⟨g,0,none⟩):=by simpa using hp
 simp [results,e,b,asAddr,zly (zah (l:=updL u) h) d]
theorem zvc {fn:Func} {R:Ending→World→Prop} {a:Act} {w:World} {c q:Tmp} {g:Nat} {t:TypeId} {u:UpP} {v:Value} (f:fn.results=#[.cell c 38,.tmp q])
  (hp:a.tmps.getD c undef = .pointer (some ⟨g,0,none⟩)) (hq:a.tmps.getD q undef=v) (h:Blk w g t (updC u)) (e:u.at_.ob.length=16) (hd:a.defers=[]) (hR:R (.returned (.tuple #[.agg (updC u),v])) w) :
  bodyPost prog fn R .ret a w:=by
 refine bodyPost_ret (v:=.tuple #[.agg (updC u),v]) ?_ hd hR
 have d:a.tmps[c]?.getD undef = .pointer (some ⟨g,0,none⟩):=by simpa using hp
 have b:a.tmps[q]?.getD undef=v:=by simpa using hq
 simp [results,f,d,b,asAddr,zly (zah (l:=updL u) h) e]
theorem zg7 (w:World):Calls prog 88 #[] w fun e w'=>e = .returned (.agg (updC zdo))∧Below w.heap.size w w':=by
 have h:=hD (Blk.new w 38 zUpd)
 have i:Hid (Below w.heap.size w (w.alloc (.cells zUpd 38))):=hD ((Below.refl _ _).alloc lr _)
 go_enter func88,ntmps88
 go_wp2_with fail
 refine (zpv _).mono ?_
 rintro e w1 ⟨rfl,a⟩
 have l:=hD (h.o.over a)
 have f:=hD (zaa i.o a (by simp))
 clear a h i
 go_wp2_with (first
  | (with_reducible refine zhX rfl (.tmp 1) rfl rfl ?_)
  | (refine zaJ rfl (.tmp 0) (.tmp 2) rfl w.heap.size rfl zdo rfl zcH l.o rfl ?_;intro m d b;have k:=hD d;have j:=hD b;clear d b;refine Hid.o ?_))
 refine hD ?_
 go_wp2
 refine zpd (c:=0) rfl rfl k.o zcH rfl ?_
 exact ⟨rfl,f.o.grown j.o f.o.size (fun g hg=>by injection hg with hg;omega)⟩
def zcl (s:List Tb × List Tb × Int) (x:Rw):List Tb × List Tb × Int :=
 if x.k=14 then (rdL true x.v,s.2.1,max s.2.2 (rdO true x.v)) else if x.k=15 then (s.1,rdL false x.v,max s.2.2 (rdO false x.v)) else (s.1,s.2.1,max s.2.2 0)
def tabs (l:List Rw):List Tb × List Tb × Int:=l.foldl zcl ([],[],0)
theorem zr0 {l:List Rw} {k:Nat} {x:Rw} (h:l[k]?=some x):tabs (l.take (k+1))=zcl (tabs (l.take k)) x:=by
 unfold tabs
 rw [List.take_add_one,h,List.foldl_append]
 rfl
structure TbsS (w y:World) (ub:Nat) (U:UpP) (rs:List Rw):Prop where
 b:Blk y ub 38 (updC U)
 at_:UpAt y (ub+1) y.heap.size U
 res:Blk y w.heap.size 38 zUpd
 bl:Below w.heap.size w y
 hu:w.heap.size<ub
 ua:U.up.at_=zeo
 ur:U.up.re=(tabs rs).1
 un:U.up.un=(tabs rs).2.1
section
variable {w y z:World} {ub:Nat} {U:UpP} {rs:List Rw}
theorem TbsS.on (h:TbsS w y ub U rs) (hb:Below y.heap.size y z):TbsS w z ub U rs :=
 ⟨h.b.over hb,(h.at_.below hb).more lr hb.size,h.res.over hb,zaa h.bl hb lr,h.hu,h.ua,h.ur,h.un⟩
theorem TbsS.c24 (h:TbsS w y ub U rs):y.cell? ⟨ub,24,none⟩=some (.slice U.rA U.rn U.rc):=by
 rw [h.b.cell];unfold updC;simpa using ziv h.at_.ob
theorem TbsS.c25 (h:TbsS w y ub U rs):y.cell? ⟨ub,25,none⟩=some (.slice U.nA U.nn U.nc):=by
 rw [h.b.cell];unfold updC;simpa using zg6 h.at_.ob
theorem TbsS.fz (h:TbsS w y ub U rs) (i:Nat):y.frozen? ⟨ub,i,none⟩=false:=h.b.frozen i
theorem zrL {U:UpP} (h:U.at_.ob.length=16) (j:Nat) (a:j<2) (v:Value):(updC U).setIfInBounds (24+j) v=(attL U.at_++([.slice U.rA U.rn U.rc,.slice U.nA U.nn U.nc].set j v)).toArray:=by
 apply Array.toList_inj.1
 rw [Array.toList_setIfInBounds]
 unfold updC updL
 show List.set _ (24+j) _=_
 rw [List.set_append_right _ _ (by rw [zbc h];omega),zbc h,show 24+j-24=j by omega]
theorem zrK {U:UpP} (h:U.at_.ob.length=16) (A:Option Addr) (n c:Nat) (l:List TbP):(updC U).setIfInBounds 24 (.slice A n c)=updC { U with rA:=A,rn:=n,rc:=c,re:=l }:=zrL h 0 (by decide) _
theorem zme {U:UpP} (h:U.at_.ob.length=16) (A:Option Addr) (n c:Nat) (l:List TbP):(updC U).setIfInBounds 25 (.slice A n c)=updC { U with nA:=A,nn:=n,nc:=c,ne:=l }:=zrL h 1 (by decide) _
theorem TbsS.setr (h:TbsS w y ub U rs) {A:Option Addr} {n c:Nat} {l:List TbP} {lo:Nat} (hr:RowE tbL mTb wTb y lo y.heap.size A n l) (hlo:ub<lo) (j:n≤c) (x:Rw) (f:x.k=14) {rs':List Rw} (hx:tabs rs'=zcl (tabs rs) x) (i:l.map TbP.tb=rdL true x.v) :
  TbsS w (y.setCell ⟨ub,24,none⟩ (.slice A n c)) ub { U with rA:=A,rn:=n,rc:=c,re:=l } rs':=by
 have hg:y.grownBy (y.setCell ⟨ub,24,none⟩ (.slice A n c)) (some ub):=zat (zad _ _) (.inl rfl) _
 have d:∀ q:Addr,ub+1≤q.block→q.block<y.heap.size→(y.setCell ⟨ub,24,none⟩ (.slice A n c)).cell? q=y.cell? q:=fun q h1 h2=>World.cell?_of_block (hg.block q.block h2 (fun e=>by injection e;omega))
 have hb:=h.b.set_ 24 (.slice A n c)
 rw [zrK h.at_.ob A n c l] at hb
 have a:=(h.at_.keep d).more lr hg.size
 refine ⟨hb,⟨a.at_,((hr.more mmTb (lo':=ub+1) hlo lr).keep mkTb d).more mmTb lr hg.size,a.ne,j,a.nc⟩,h.res.grown hg (by have:=h.hu;simp;omega),h.bl.grown hg h.bl.size (fun g hg=>by injection hg with hg;have:=h.hu;omega),h.hu,h.ua,?_,?_⟩
 ·show l.map TbP.tb=_
  rw [hx,i];unfold zcl;rw [if_pos f]
 ·rw [hx];unfold zcl;rw [if_pos f];exact h.un
theorem TbsS.setn (h:TbsS w y ub U rs) {A:Option Addr} {n c:Nat} {l:List TbP} {lo:Nat} (hr:RowE tbL mTb wTb y lo y.heap.size A n l) (hlo:ub<lo) (j:n≤c) (x:Rw) (f:x.k=15) {rs':List Rw} (hx:tabs rs'=zcl (tabs rs) x) (i:l.map TbP.tb=rdL false x.v) :
  TbsS w (y.setCell ⟨ub,25,none⟩ (.slice A n c)) ub { U with nA:=A,nn:=n,nc:=c,ne:=l } rs':=by
 have hg:y.grownBy (y.setCell ⟨ub,25,none⟩ (.slice A n c)) (some ub):=zat (zad _ _) (.inl rfl) _
 have d:∀ q:Addr,ub+1≤q.block→q.block<y.heap.size→(y.setCell ⟨ub,25,none⟩ (.slice A n c)).cell? q=y.cell? q:=fun q h1 h2=>World.cell?_of_block (hg.block q.block h2 (fun e=>by injection e;omega))
 have hb:=h.b.set_ 25 (.slice A n c)
 rw [zme h.at_.ob A n c l] at hb
 have a:=(h.at_.keep d).more lr hg.size
 refine ⟨hb,⟨a.at_,a.re,((hr.more mmTb (lo':=ub+1) hlo lr).keep mkTb d).more mmTb lr hg.size,a.rc,j⟩,h.res.grown hg (by have:=h.hu;simp;omega),h.bl.grown hg h.bl.size (fun g hg=>by injection hg with hg;have:=h.hu;omega),h.hu,h.ua,?_,?_⟩
 ·rw [hx];unfold zcl;rw [if_neg (by omega),if_pos f];exact h.ur
 ·show l.map TbP.tb=_
  rw [hx,i];unfold zcl;rw [if_neg (by omega),if_pos f]
theorem TbsS.pass (h:TbsS w y ub U rs) (x:Rw) (h4:x.k≠14) (a:x.k≠15) {rs':List Rw} (hx:tabs rs'=zcl (tabs rs) x):TbsS w y ub U rs' :=
 ⟨h.b,h.at_,h.res,h.bl,h.hu,h.ua,by rw [hx];unfold zcl;rw [if_neg h4,if_neg a];exact h.ur,by rw [hx];unfold zcl;rw [if_neg h4,if_neg a];exact h.un⟩
end
def zwo (w:World) (rs:List Rw) (e:Ending) (w':World):Prop :=
 ∃ U:UpP,e = .returned (.tuple #[.agg (updC U),.int .i64 (tabs rs).2.2])∧UpAt w' w.heap.size w'.heap.size U∧U.up=⟨zeo,(tabs rs).1,(tabs rs).2.1⟩∧Below w.heap.size w w'
abbrev zRaw:Array Value:=#[.int .i64 0,.int .i64 0,.slice none 0 0]
set_option maxRecDepth 20000 in
set_option maxHeartbeats 4000000 in
theorem zp4 (w:World) (lo hi:Nat) (A:Option Addr) (n c:Nat) (l:List RawP) (h:zbi w lo hi A n l) (hh:hi≤w.heap.size) (hn:n≤100000) (hv:∀ x∈l,x.v.length≤1000000000) (hN:za1 w) :
  Calls prog 83 #[.slice A n c] w (zwo w (l.map RawP.raw)):=by
 have H:=hD h
 have HL:=hD h.len
 have HV:=hD hv
 have HN:=hD hN
 have N0:=hD (Blk.new w 38 zUpd)
 have W0:Hid (Below w.heap.size w (w.alloc (.cells zUpd 38))):=hD ((Below.refl _ _).alloc lr _)
 clear h hv hN
 go_enter func83,ntmps83
 go_wp2_with fail
 refine (zg7 _).mono ?_
 rintro e w1 ⟨rfl,O⟩
 have N1:=hD (N0.o.over O)
 have W1:=hD (zaa W0.o O (by simp))
 have R:Hid (w.heap.size<w1.heap.size):=hD N1.o.lt
 have d:=hD (Blk.new w1 38 zUpd)
 clear O N0 W0
 go_wp2_with (refine zaJ rfl (.tmp 4) (.tmp 9) rfl w1.heap.size rfl zdo rfl zcH d.o rfl ?_;intro w2 Q X;have K2:=hD Q;have W2:Hid (Below w1.heap.size w1 w2):=hD (((Below.refl _ _).alloc lr _).grown X (by simp) (by simp));clear Q X;refine Hid.o ?_)
 refine hD ?_
 have S2:Hid (TbsS w w2 w1.heap.size zdo []):=hD ⟨K2.o,⟨zjc _ _ _,RowE.nil _ _ _ _,RowE.nil _ _ _ _,lr,lr⟩,N1.o.over W2.o,zaa W1.o W2.o lr,R.o,rfl,rfl,rfl⟩
 generalize w1.heap.size=ub at *
 clear K2 W2 d N1 W1 R
 go_wp2_with fail
 go_loopw [5,12] (fun v i wr=>∃ (k:Nat) (U:UpP),k≤n∧v = .int .i64 (tabs ((l.map RawP.raw).take k)).2.2∧i = .int .i64 k∧TbsS w wr ub U ((l.map RawP.raw).take k)) (fun _ i _=>n-(intOf i).toNat)
 case atStart=>exact ⟨0,zdo,Nat.zero_le _,rfl,rfl,S2.o⟩
 case round =>
  obtain ⟨k,U,hk,rfl,rfl,hs⟩:=hrel
  have S:=hD hs
  clear hs
  by_cases ag:k<n
  ·have ah:((k:Nat):Int)<(n:Int):=by omega
   have YR:=hD (H.o.below (S.o.bl.mono hh))
   obtain ⟨b,o,x,rfl,_,_,hx,Y,s,aa⟩:=YR.o.at_ ag
   have HX:Hid ((l.map RawP.raw)[k]?=some x.raw):=hD (by rw [List.getElem?_map,hx];rfl)
   have ae:=hD (HV.o x (List.mem_of_getElem? hx))
   have V:=hD Y
   have G:=hD s
   have a:=hD (zr0 HX.o)
   generalize hT:tabs ((l.map RawP.raw).take k)=T at *
   have HT:=hD hT
   have d:=hD (Blk.new wr 176 zRaw)
   have af:=hD s.len
   clear hx Y s YR hT
   go_wp2_with (first
    | (with_reducible refine zcj rfl (.tmp 14) rfl rfl V.o ?_)
    | (refine zcE rfl (.tmp 7) (.tmp 15) rfl wr.heap.size rfl x rfl d.o rfl ?_;intro E D C;have K3:=hD D;have W3:Hid (Below wr.heap.size wr E):=hD (((Below.refl _ _).alloc lr _).grown C (by simp) (by simp));clear D C;refine Hid.o ?_))
   refine hD ?_
   have I:=hD (S.o.on W3.o)
   have V3:=hD (G.o.below (W3.o.mono (Nat.le_trans hh S.o.bl.size)))
   have N3:=hD (HN.o.below I.o.bl)
   have k1:E.cell? ⟨wr.heap.size,1,none⟩=some (.int .i64 x.k):=K3.o.cell 1
   have k2:E.cell? ⟨wr.heap.size,2,none⟩=some (.slice x.A x.n x.c):=K3.o.cell 2
   have ac:hi≤E.heap.size:=Nat.le_trans hh I.o.bl.size
   have L:x.n≤1000000000:=by have:=ae.o;have:=af.o;omega
   have Z:=hD I.o.b.lt
   obtain ⟨F,K,A9,n9,c9,B⟩:=x
   dsimp only at k1 k2 L aa
   clear K3 W3 S G ae af d V
   by_cases M:K=14
   ·subst M
    have f:Hid ((tabs ((l.map RawP.raw).take (k+1))).2.2=max T.2.2 (rdO true B)):=hD (by rw [a.o];rfl)
    go_wp2_with fail
    refine (ziZ E lo hi A9 n9 c9 B true V3.o ac L N3.o).mono ?_
    rintro e w4 ⟨A4,n4,c4,l4,rfl,j,r,t,m⟩
    have P:=hD (I.o.on m)
    have ak:=P.o.c24
    have am:=P.o.fz 24
    have p:=hD (P.o.setr j (lo:=E.heap.size) Z.o r ⟨F,14,B⟩ rfl (rs':=(l.map RawP.raw).take (k+1)) (by rw [HT.o];exact a.o) t)
    generalize rdO true B=ro at *
    clear j r t m I V3 N3
    go_wp2_with fail
    go_roundw
    case rel=>exact ⟨k+1,_,by omega,by rw [f.o],by go_num,p.o⟩
    case measure=>simp [intOf];omega
   ·by_cases J:K=15
    ·subst J
     have f:Hid ((tabs ((l.map RawP.raw).take (k+1))).2.2=max T.2.2 (rdO false B)):=hD (by rw [a.o];rfl)
     go_wp2_with fail
     refine (ziZ E lo hi A9 n9 c9 B false V3.o ac L N3.o).mono ?_
     rintro e w4 ⟨A4,n4,c4,l4,rfl,j,r,t,m⟩
     have P:=hD (I.o.on m)
     have aj:=P.o.c25
     have ar:=P.o.fz 25
     have p:=hD (P.o.setn j (lo:=E.heap.size) Z.o r ⟨F,15,B⟩ rfl (rs':=(l.map RawP.raw).take (k+1)) (by rw [HT.o];exact a.o) t)
     generalize rdO false B=ro at *
     clear j r t m I V3 N3
     go_wp2_with fail
     go_roundw
     case rel=>exact ⟨k+1,_,by omega,by rw [f.o],by go_num,p.o⟩
     case measure=>simp [intOf];omega
    ·have p:=hD (I.o.pass ⟨F,K,B⟩ M J (rs':=(l.map RawP.raw).take (k+1)) (by rw [HT.o];exact a.o))
     have f:Hid ((tabs ((l.map RawP.raw).take (k+1))).2.2=max T.2.2 0):=hD (by rw [a.o];unfold zcl;rw [if_neg (show ¬ (RawP.raw ⟨F,K,A9,n9,c9,B⟩).k=14 from M),if_neg (show ¬ (RawP.raw ⟨F,K,A9,n9,c9,B⟩).k=15 from J)])
     go_wp2_with fail
     go_roundw
     case rel=>exact ⟨k+1,U,by omega,by rw [f.o],by go_num,p.o⟩
     case measure=>simp [intOf];omega
  ·obtain rfl:k=n:=by omega
   have ah:¬ ((k:Nat):Int)<(k:Int):=by omega
   have N:=hD S.o.at_.ob
   have RG:=hD (zah (l:=updL U) S.o.b)
   have W:Hid ((l.map RawP.raw).take k=l.map RawP.raw):=hD (List.take_of_length_le (by rw [List.length_map,HL.o];exact lr))
   go_wp2_with (first
    | ((with_reducible refine zbZ ?_ (.tmp 4) rfl ub 0 rfl U RG.o N.o ?_);· rfl)
    | (refine zaJ rfl (.tmp 2) (.tmp 40) rfl w.heap.size rfl U rfl N.o S.o.res rfl ?_;intro E D C;have K3:=hD D;have G3:=hD C;clear D C;refine Hid.o ?_))
   refine hD ?_
   go_wp2
   refine zvc (c:=2) (q:=3) (v:=.int .i64 _) rfl rfl rfl K3.o N.o rfl ?_
   have ai:=S.o.bl.grown G3.o S.o.bl.size (fun g hg=>by injection hg with hg;omega)
   refine ⟨U,by rw [W.o],?_,?_,ai⟩
   ·exact (S.o.at_.keep (fun q h1 h2=>World.cell?_of_block (G3.o.block q.block h2 (fun e=>by injection e with e;have:=S.o.hu;omega)))).more (by have:=S.o.hu;omega) G3.o.size
   ·have e1:=S.o.ua
    have e2:=S.o.ur
    have e3:=S.o.un
    rw [W.o] at e2 e3
    cases hU:U.up
    rw [hU] at e1 e2 e3
    simp only at e1 e2 e3
    rw [e1,e2,e3]
end
section
open Go.RowKit
theorem zuP:(prog.info? 104).map (fun i=>(i.zero.map (·.cells.size),i.size,i.bytes))=some (some 21,21,88):=by kernel_rfl
theorem zp5:∃ (i:TypeInfo) (z:Value),prog.info? 104=some i∧i.zero=some z∧i.size=21∧i.bytes=88∧z.cells.size=21:=by
 have h:=zuP
 cases hq:prog.info? 104 with
 | none=>rw [hq] at h;cases h
 | some i =>
  rw [hq] at h
  simp only [Option.map_some,Option.some.injEq,Prod.mk.injEq] at h
  cases hz:i.zero with
  | none=>rw [hz] at h;simp at h
  | some z =>
   rw [hz] at h
   simp at h
   exact ⟨i,z,rfl,hz,h.2.1,h.2.2,h.1⟩
theorem ziN (w:World) (base:Nat) (v:Value) (n:Nat) (xs:List TbP) (b:w.ownsRow base 104 21 v n (za2 tbL xs)) (lo hi':Nat) (A:Option Addr) (m c:Nat) (news:List TbP) (hr:AtG tbL w lo hi' A m news)
  (hs:∀ y∈news,wTb y) (hb:n+m≤1000000000) (a:base≤w.heap.size) :
  ∃ v' w',(Builtin.append_ #[36,36] 36 #[v,.slice A m c]).run prog w = .ok v' w'∧w'.ownsRow base 104 21 v' (n+m) (za2 tbL (xs++news))∧w.grownBy w' v.ownBlock∧(v'.ownBlock=v.ownBlock∨v'.ownBlock=some w.heap.size):=by
 obtain ⟨i,z,hi,d,h1,h2,h3⟩:=zp5
 exact zb5 (P:=prog) w base 36 36 104 i z 88 underlying36 hi d h1 h2 h3 (by decide) v n xs b lo hi' A m c news hr (fun y hy=>zrQ (hs y hy)) (fun y hy=>znF y) (by omega) (by unfold maxLen;omega) a
abbrev zTbG:Array Value:=#[.int .i64 0,.int .i64 0,.int .i64 0,.int .u8 0,.int .u8 0,.int .u8 0,.int .u8 0,.int .u8 0,.int .u8 0,.int .u8 0,.int .u8 0,.int .u8 0,.int .u8 0,.int .u8 0,.int .u8 0,.int .u8 0,.int .u8 0,.int .u8 0,.int .u8 0,.slice none 0 0,.slice none 0 0]
def zhn (x:TbP):TbP:={ x with ns:=0,nb:=zas }
def tbT (x:TbP):List Value:=[.int .i64 x.s,.int .i64 x.f]
def gonV (A:Option Addr) (c:Nat) (xs:List TbP):UpP:={ zdo with nA:=A,nn:=xs.length,nc:=c,ne:=xs }
theorem ztw (A:Option Addr) (c:Nat) (xs:List TbP):(updC (gonV A c xs))[25]?=some (.slice A xs.length c):=by
 have e:=zg6 (u:=gonV A c xs) rfl
 unfold updC
 rw [List.getElem?_toArray]
 exact e
theorem zp0 {l:List TbP} {x:TbP} (h:l[0]?=some x):l.take 1=[x]:=by
 cases l with
 | nil=>simp at h
 | cons y r =>
  have e:y=x:=by simpa using h
  subst e
  rfl
structure GnS (w y:World) (lo hi gb:Nat) (u:UpP) (A:Option Addr) (c:Nat) (xs:List TbP):Prop where
 s:UpS w y lo hi u
 b:Blk y gb 38 (updC (gonV A c xs))
 o:y.ownsRow (gb+1) 104 21 (.slice A xs.length c) xs.length (za2 tbL xs)
 m:∀ x∈xs,mTb y lo hi x∧wTb x
 hg:w.heap.size+1<gb
 res:Blk y (w.heap.size+1) 38 zUpd
section
variable {w y z:World} {lo hi gb c:Nat} {u:UpP} {A:Option Addr} {xs:List TbP}
theorem GnS.on (h:GnS w y lo hi gb u A c xs) (hb:Below y.heap.size y z):GnS w z lo hi gb u A c xs :=
 ⟨h.s.on hb,h.b.over hb,zaZ h.o hb,fun x hx=>⟨mkTb _ _ _ _ _ (fun p _ hp=>hb.cell (by have:=h.s.here;omega)) (h.m x hx).1,(h.m x hx).2⟩,h.hg,h.res.over hb⟩
theorem GnS.c25 (h:GnS w y lo hi gb u A c xs):y.cell? ⟨gb,25,none⟩=some (.slice A xs.length c):=by
 rw [h.b.cell];exact ztw A c xs
theorem GnS.append (h:GnS w y lo hi gb u A c xs) (B:Option Addr) (n d:Nat) (news:List TbP) {l C:Nat} (hr:AtG tbL y l C B n news) (hm:∀ x∈news,mTb y lo hi x∧wTb x) (hb:xs.length+n≤1000000000) :
  ∃ f c' w',(Builtin.append_ #[36,36] 36 #[.slice A xs.length c,.slice B n d]).run prog y = .ok (.slice f (xs.length+n) c') w'∧w'.cell? ⟨gb,25,none⟩=some (.slice A xs.length c)∧w'.frozen? ⟨gb,25,none⟩=false ∧
   GnS w (w'.setCell ⟨gb,25,none⟩ (.slice f (xs.length+n) c')) lo hi gb u f c' (xs++news):=by
 have G:=h.b.lt
 obtain ⟨v',w',r,t,hg,F⟩:=ziN y (gb+1) _ _ xs h.o l C B n d news hr (fun x hx=>(hm x hx).2) hb (by omega)
 obtain ⟨f,c',rfl,H,_⟩:=za7 t
 have i:(xs++news).length=xs.length+n:=by rw [List.length_append,hr.len]
 have a:∀ k,(Value.slice A xs.length c).ownBlock=some k→gb<k:=fun k j=>by have:=(h.o.lt k j).1;omega
 have q:∀ k,(Value.slice f (xs.length+n) c').ownBlock=some k→gb<k:=fun k j=>by have:=(t.lt k j).1;omega
 have D:=hg.size
 have v:Blk w' gb 38 (updC (gonV A c xs)):=h.b.grown hg (fun e=>by have:=a _ e.symm;omega)
 have E:UpS w w' lo hi u:=h.s.grown hg (fun k j=>by have:=a k j;have:=h.hg;omega)
 have J:∀ x,mTb y lo hi x→mTb w' lo hi x:=fun x hx=>mkTb _ _ _ _ _ (fun p _ hp=>World.cell?_of_block (hg.block p.block (by have:=h.s.here;omega) (fun e=>by have:=a _ e.symm;have:=h.hg;have:=h.s.hh;omega))) hx
 have I:Blk w' (w.heap.size+1) 38 zUpd:=h.res.grown hg (fun e=>by have:=a _ e.symm;have:=h.hg;omega)
 have g:w'.grownBy (w'.setCell ⟨gb,25,none⟩ (.slice f (xs.length+n) c')) (some gb):=zat (zad _ _) (.inl rfl) _
 refine ⟨f,c',w',r,by rw [v.cell];exact ztw A c xs,v.frozen 25,⟨E.grown g (fun k j=>by injection j with j;have:=h.hg;omega),?_,?_,?_,h.hg,I.grown g (by have:=h.hg;simp;omega)⟩⟩
 ·have h1:=v.set_ 25 (.slice f (xs.length+n) c')
  rw [zme (U:=gonV A c xs) rfl f (xs.length+n) c' (xs++news)] at h1
  have e:gonV f c' (xs++news)={ gonV A c xs with nA:=f,nn:=xs.length+n,nc:=c',ne:=xs++news }:=by unfold gonV;rw [i]
  rw [e];exact h1
 ·rw [i]
  exact zb9 t g (by
   cases hq:(Value.slice f (xs.length+n) c').ownBlock with
   | none=>exact .inl rfl
   | some k=>exact .inr (fun e=>by injection e with e;have:=q k hq;omega))
 ·intro x hx
  have h3:mTb y lo hi x∧wTb x:=by
   rcases List.mem_append.1 hx with hx | hx
   ·exact h.m x hx
   ·exact hm x hx
  exact ⟨mkTb _ _ _ _ _ (fun p _ hp=>World.cell?_of_block (g.block p.block (by have:=h.s.here;omega) (fun e=>by injection e with e;have:=h.hg;have:=h.s.hh;omega))) (J x h3.1),h3.2⟩
end
def zws (w:World) (lo hi:Nat) (u:UpP) (e:Ending) (w':World):Prop :=
 ∃ (A:Option Addr) (c:Nat) (xs:List TbP),e = .returned (.agg (updC (gonV A c xs)))∧AtG tbL w' w.heap.size w'.heap.size A xs.length xs∧(∀ x∈xs,mTb w' lo hi x∧wTb x)∧xs.length≤c∧xs.map TbP.tb=u.up.re.map zjm++u.up.un∧Below w.heap.size w w'
set_option maxRecDepth 20000 in
set_option maxHeartbeats 4000000 in
theorem zvO (w:World) (lo hi:Nat) (u:UpP) (h:UpAt w lo hi u) (hh:hi≤w.heap.size) (au:u.rn≤1) (aj:u.nn≤1000) :
  Calls prog 84 #[.agg (updC u)] w (zws w lo hi u):=by
 obtain ⟨M,rA,rn,rc,re,nA,nn,nc,ne⟩:=u
 have S0:=hD (UpS.start h hh)
 have bh:M.ob.length=16:=h.ob
 have av:Hid (re.length=rn):=hD h.re.len
 have bf:Hid (ne.length=nn):=hD h.ne.len
 dsimp only at au aj
 have e1:(w.alloc (.cells (updC ⟨M,rA,rn,rc,re,nA,nn,nc,ne⟩) 38)).heap.size=w.heap.size+1:=by simp
 have R0:=Blk.new (w.alloc (.cells (updC ⟨M,rA,rn,rc,re,nA,nn,nc,ne⟩) 38)) 38 zUpd
 rw [e1] at R0
 have S1:=hD (S0.o.new (.cells zUpd 38))
 have RB:=hD R0
 clear h S0 R0
 go_enter func84,ntmps84
 go_wp2_with fail
 refine (zg7 _).mono ?_
 rintro e w1 ⟨rfl,r⟩
 have S2:=hD (S1.o.on r)
 have I:=hD (RB.o.over r)
 have g:=hD (Blk.new w1 38 zUpd)
 have Y:=hD I.o.lt
 clear r S1 RB
 go_wp2_with (refine zaJ rfl (.tmp 3) (.tmp 6) rfl w1.heap.size rfl zdo rfl zcH g.o rfl ?_;intro w2 C O;have K2:=hD C;have W2:Hid (Below w1.heap.size w1 w2):=hD (((Below.refl _ _).alloc lr _).grown O (by simp) (by simp));clear C O;refine Hid.o ?_)
 refine hD ?_
 have G2:Hid (GnS w w2 lo hi w1.heap.size ⟨M,rA,rn,rc,re,nA,nn,nc,ne⟩ none 0 []):=hD ⟨S2.o.on W2.o,K2.o,World.ownsRow_nil _ _ _ _,(fun x hx=>by cases hx),Y.o,I.o.over W2.o⟩
 generalize w1.heap.size=gb at *
 have bg:=G2.o.s.c24
 clear K2 W2 g S2 I Y e1
 go_wp2_with fail
 go_loopw [10] (fun i wr=>∃ (k c:Nat) (A:Option Addr) (xs:List TbP),k≤rn∧i = .int .i64 k∧xs.length=k∧xs.map TbP.tb=((re.take k).map TbP.tb).map zjm∧GnS w wr lo hi gb ⟨M,rA,rn,rc,re,nA,nn,nc,ne⟩ A c xs) (fun i _=>rn-(intOf i).toNat)
 case atStart=>exact ⟨0,0,none,[],Nat.zero_le _,rfl,rfl,rfl,G2.o⟩
 case round =>
  obtain ⟨k,c,A,xs,hk,rfl,X,K,T⟩:=hrel
  have G:=hD T
  have E:=hD X
  have ag:=hD K
  clear T X K
  by_cases P:k<rn
  ·obtain rfl:k=0:=by omega
   have ak:((0:Nat):Int)<(rn:Int):=by omega
   obtain ⟨b,o,x,rfl,r,C,hx,D⟩:=G.o.s.at_.re.row.at_ (sz:=21) (fun y hy=>zrQ (G.o.s.at_.re.sz y hy)) P
   have f:=List.mem_of_getElem? hx
   have HM:=hD (G.o.s.at_.re.mem x f)
   have HW:=hD (G.o.s.at_.re.sz x f)
   have XN:=hD (zgq HW.o)
   have HX:=hD hx
   rw [Nat.zero_mul,Nat.add_zero] at D
   have N:=hD D
   have g:=hD (Blk.new wr 104 zTbG)
   have XA:=hD (zpk XN.o)
   clear hx D f
   go_wp2_with (first
    | ((with_reducible refine zaH ?_ (.tmp 12) rfl b o rfl x N.o XN.o ?_);· rfl)
    | (refine zdF rfl (.tmp 5) (.tmp 13) rfl wr.heap.size rfl x rfl XN.o g.o rfl ?_;intro w3 R Q;have K3:=hD R;have Z:Hid (Below wr.heap.size wr w3):=hD (((Below.refl _ _).alloc lr _).grown Q (by simp) (by simp));clear R Q;refine Hid.o ?_))
   refine hD ?_
   have G3:=hD (G.o.on Z.o)
   have M3:=hD (mkTb _ _ _ _ _ (fun p _ hp=>Z.o.cell (by have:=G.o.s.here;omega)) HM.o)
   have S:Hid (Blk w3 wr.heap.size 104 (tbT x++(rdrA x++rdrR x)).toArray):=hD K3.o
   clear g HM N G3 K3
   have am:=hD Z.o.size
   go_wp2_with (refine zea rfl (.tmp 15) (.tmp 14) rfl wr.heap.size 2 rfl 0 zas rfl rfl (tbT x) (rdrA x) (rdrR x) S.o rfl XA.o ?_;intro B J F;have K4:Hid (Blk B wr.heap.size 104 (tbC (zhn x))):=hD J;have W4:=hD (Z.o.grown F Z.o.size (fun q e=>by injection e with e;omega));have ac:=hD F;clear J F;refine Hid.o ?_)
   refine hD ?_
   have G4:=hD (G.o.on W4.o)
   have M4:Hid (mTb B lo hi (zhn x)):=hD (mkTb _ _ _ _ _ (fun p _ hp=>ac.o.block p.block (by have:=G.o.s.here;have:=am.o;omega) (fun e=>by injection e with e;have:=G.o.s.here;omega) |> fun h9=>World.cell?_of_block h9) M3.o)
   have Z4:Hid (wTb (zhn x)):=hD (gone_W HW.o)
   have ay:=G4.o.c25
   have ax:=hD (zah (l:=tbL (zhn x)) K4.o)
   have G5:=hD (G4.o.on ((Below.refl _ _).alloc lr (.cells (tbC (zhn x)) 104)))
   have aw:Hid (Below B.heap.size B (B.alloc (.cells (tbC (zhn x)) 104))):=hD ((Below.refl _ _).alloc lr _)
   obtain ⟨v,t,w6,a,a8,af,j⟩:=G5.o.append (some ⟨B.heap.size,0,none⟩) 1 1 [zhn x] (AtG.one (Blk.new B 104 (tbC (zhn x)))) (fun y hy=>by rw [List.mem_singleton.1 hy];exact ⟨mkTb _ _ _ _ _ (fun p _ hp=>aw.o.cell (by have:=G4.o.s.here;omega)) M4.o,Z4.o⟩) (by rw [E.o];decide)
   have n:=hD a
   have d:=hD j
   have H:xs=[]:=List.eq_nil_of_length_eq_zero E.o
   have W:Hid ((xs++[zhn x]).map TbP.tb=((re.take 1).map TbP.tb).map zjm):=hD (by rw [H,zp0 HX.o];rfl)
   have L:Hid ((xs++[zhn x]).length=1):=hD (by rw [H];rfl)
   clear a j G5 S M3 W4 ac H
   go_wp2_with (first
    | ((with_reducible refine zaH ?_ (.tmp 5) rfl wr.heap.size 0 rfl (zhn x) ax.o rfl ?_);· rfl)
    | ((with_reducible refine zdp ?_ (.tmp 18) rfl (zhn x) rfl rfl ?_);· rfl)
    | (at_builtin;refine zbP rfl (.tmp 17) (.tmp 19) 36 36 36 rfl rfl rfl rfl n.o ?_;refine Hid.o ?_))
   refine hD ?_
   go_wp2
   go_roundw
   case rel=>exact ⟨1,t,v,xs++[zhn x],P,by go_num,L.o,W.o,d.o⟩
   case measure=>simp [intOf];omega
  ·obtain rfl:k=rn:=by omega
   have ak:¬ ((k:Nat):Int)<(k:Int):=by omega
   have ah:Hid (re.take k=re):=hD (List.take_of_length_le (by rw [av.o];exact lr))
   have ay:=G.o.c25
   have bc:=G.o.s.c25
   obtain ⟨v,t,w6,a,a8,af,j⟩:=G.o.append nA nn nc ne G.o.s.at_.ne.row (fun y hy=>⟨G.o.s.at_.ne.mem y hy,G.o.s.at_.ne.sz y hy⟩) (by rw [E.o];omega)
   have n:=hD a
   have d:=hD j
   have az:=hD (zah (l:=updL (gonV v t (xs++ne))) d.o.b)
   clear a j
   go_wp2_with (at_builtin;refine zbP rfl (.tmp 24) (.tmp 26) 36 36 36 rfl rfl rfl rfl n.o ?_;refine Hid.o ?_)
   refine hD ?_
   go_wp2_with (first
    | ((with_reducible refine zbZ ?_ (.tmp 3) rfl gb 0 rfl (gonV v t (xs++ne)) az.o rfl ?_);· rfl)
    | (refine zaJ rfl (.tmp 2) (.tmp 29) rfl (w.heap.size+1) rfl (gonV v t (xs++ne)) rfl rfl d.o.res rfl ?_;intro w7 V ae;have K7:=hD V;have G7:=hD ae;clear V ae;refine Hid.o ?_))
   refine hD ?_
   go_wp2
   refine zpd (c:=2) rfl rfl K7.o rfl rfl ?_
   have ar:=d.o.s.bl.grown G7.o d.o.s.bl.size (fun q hq=>by injection hq with hq;omega)
   have ai:∀ q:Addr,gb+1≤q.block→q.block<(w6.setCell ⟨gb,25,none⟩ (.slice v (xs.length+nn) t)).heap.size→w7.cell? q=(w6.setCell ⟨gb,25,none⟩ (.slice v (xs.length+nn) t)).cell? q:=fun q h1 h2=>World.cell?_of_block (G7.o.block q.block h2 (fun e=>by injection e with e;have:=d.o.hg;omega))
   obtain ⟨_,_,hv,aa,_⟩:=za7 d.o.o
   injection hv with _ _ hv
   refine ⟨v,t,xs++ne,rfl,((AtG.own (fun y hy=>zrQ (d.o.m y hy).2) rfl d.o.o).keep ai).more (by have:=d.o.hg;omega) G7.o.size,fun y hy=>⟨?_,(d.o.m y hy).2⟩,by rw [← hv] at aa;exact aa,?_,ar⟩
   ·exact mkTb _ _ _ _ _ (fun p _ hp=>World.cell?_of_block (G7.o.block p.block (by have:=d.o.s.here;omega) (fun e=>by injection e with e;omega))) (d.o.m y hy).1
   ·rw [List.map_append,ag.o,ah.o]
    rfl
end
end Go.Proofs.YtplpglfjcieloaaGreatDoor
