/-
  How a table is read out of its value: readTable of package update, in whatever memory. The one condition beyond sizes that fit memory: the program's table holds what its text lays.
  What tells routes, read: Empty, tables of package update, in whatever memory. The one condition beyond sizes that fit memory: the program's table holds what its text lays.
-/
import Derived.Test.YtookpplebikfnaaGreatDoorKHBD
set_option linter.unusedVariables false
set_option linter.unusedSimpArgs false
namespace Go.Proofs.YtookpplebikfnaaGreatDoor
section
open Go.RowKit
theorem zfZ (b:List UInt8) (k:Int):(zaf b k).length≤b.length:=by
 unfold zaf
 split
 ·rw [List.length_drop];omega
 ·simp
theorem zg7 (b:List UInt8) (k:Int):(zai b k).length≤b.length:=by
 unfold zai
 split
 ·exact zfZ b k
 ·simp
theorem znh (b:List UInt8):(fam3 b).length≤b.length:=Nat.le_trans (zg7 _ _) (zg7 _ _)
theorem zu9 (b:List UInt8):(nx6 b).length≤b.length:=Nat.le_trans (zfZ _ _) (Nat.le_trans (zfZ _ _) (Nat.le_trans (zg7 _ _) (znh b)))
theorem zv2 (r:Bool) (b:List UInt8):(if r then nx6 b else fam3 b).length≤b.length:=by
 cases r
 ·exact znh b
 ·exact zu9 b
theorem zrh (r:Bool) (b:List UInt8):(rdT r b).ms.length≤b.length∧(rdT r b).us.length≤b.length∧∀ m∈(rdT r b).ms,m.key.length≤64:=by
 have h1:=zvT (if r then nx6 b else fam3 b) (famS b)
 have h2:=ztE (if r then nx6 b else fam3 b) (famS b)
 have h3:=zv2 r b
 unfold rdT
 by_cases hf:famF b=5
 ·simp only [if_pos hf]
  exact ⟨by omega,by simp,fun m hm=>zq8 (zmI _ _ m hm).2⟩
 ·simp only [if_neg hf]
  exact ⟨by simp,by omega,fun m hm=>by cases hm⟩
theorem zsd {w:World} {lo hi:Nat} {x:TbP} {r:Bool} {b:List UInt8} (h:mTb w lo hi x) (e:x.tb=rdT r b) (hb:b.length≤1000000000):FitT x:=by
 obtain ⟨h1,h2,h3⟩:=zrh r b
 rw [← e] at h1 h2 h3
 have l1:x.ms.length≤b.length:=h1
 have l2:x.us.length≤b.length:=h2
 have l3:=h.1.len
 have l4:=h.2.1.len
 exact ⟨by omega,by omega,fun m hm=>by have:=h3 m hm;omega⟩
theorem Rd.bad {w:World} {lo g:Nat} {bs:List UInt8} {bad:Bool} (h:Rd w lo g bs bad) :
  Calls Tryz.prog 64 #[.pointer (some ⟨g,0,none⟩)] w fun e w'=>e = .returned (.bool bad)∧w=w':=by
 obtain ⟨A,n,c,hb,_⟩:=h
 exact zk5 w g A n c bad hb
theorem znN:∃ z:Value,z.cells.size=21∧∀ w,(zeroValue 53).run Tryz.prog w = .ok z w:=⟨_,by kernel_rfl,Tryz.zeroValue53⟩
theorem zdx {ops:Array Oper} {rest:List Oper} {o:Oper} {a:Act} {w:World} {Q:Exit→Act→World→Prop} (hw:Region.wanted o (yielded ops a.tmps)=true) (x:Operand) (ho:o.op = .buildSlice 31 1 #[(0,x)]) (t:TbP) (ex:a.eval x = .agg (tbC t)) (hl:t.nb.length=16)
  (hk:wpList Tryz.prog ops Q rest (a.put o.dst (.slice (some ⟨w.heap.size,0,none⟩) 1 1)) (w.alloc (.cells (tbC t) 53))):wpList Tryz.prog ops Q (o::rest) a w:=by
 obtain ⟨z,hz,hz2⟩:=znN
 have h:=zbN (P:=Tryz.prog) w 31 53 (tbC t) z Tryz.underlying31 (fun w=>Tryz.sizeOf53 w) hz2 hz (zgn hl) (by decide) (by decide)
 refine zcb hw ?_ hk
 unfold execOp
 simp only [ho,List.map_toArray,List.map_cons,List.map_nil,ex,Sem.run_bind,h,Result.andThen_ok,Sem.run_pure]
theorem zsE (g:Nat):Tryz.prog.built 160 [(0,.pointer (some ⟨g,0,none⟩))]=some (rdrC g rd0):=by kernel_rfl
theorem zhP {ops:Array Oper} {rest:List Oper} {o:Oper} {a:Act} {w:World} {Q:Exit→Act→World→Prop} (hgd:o.guard=none) (z:Operand) (ho:o.op = .build 160 #[(0,z)]) (g:Nat) (hz:a.eval z = .pointer (some ⟨g,0,none⟩))
  (hk:wpList Tryz.prog ops Q rest (a.put o.dst (.agg (rdrC g rd0))) w):wpList Tryz.prog ops Q (o::rest) a w:=by
 refine wpList_plain hgd fun K hK'=>?_
 unfold Oper.wp execOp
 simp only [ho,List.map_toArray,List.map_cons,List.map_nil,hz,Sem.run_bind,run_build w _ _ _ (zsE g),Result.andThen_ok,Sem.run_pure]
 exact hK' _ _ hk
theorem ztR (g:Nat) (x:TbP):(rdrC g x).all (·.oneCell')=true:=by
 rw [Array.all_eq_true_iff_forall_mem]
 intro u hu
 unfold rdrC rdrL at hu
 simp only [List.mem_toArray,List.mem_cons] at hu
 rcases hu with rfl | hu
 ·rfl
 ·exact zmA x u hu
theorem zlL {g:Nat} {x:TbP} (h:x.nb.length=16):(rdrC g x).size=22:=by unfold rdrC rdrL;simp [zkj h]
theorem zhH {ops:Array Oper} {rest:List Oper} {o:Oper} {a:Act} {w:World} {Q:Exit→Act→World→Prop} (hgd:o.guard=none) (x y:Operand) (ho:o.op = .store 160 x y) (r:Nat) (hx:a.eval x = .pointer (some ⟨r,0,none⟩)) (g:Nat) (hy:a.eval y = .agg (rdrC g rd0)) {t:TypeId} {old:Array Value} (h:Blk w r t old) (hold:old.size=22)
  (hk:∀ w',Blk w' r t (rdrC g rd0)→w.grownBy w' (some r)→wpList Tryz.prog ops Q rest (a.put o.dst undef) w'):wpList Tryz.prog ops Q (o::rest) a w :=
 wpList_store_row hgd 160 x y ho r (rdrC g rd0) hx hy t old h (by rw [zlL (x:=rd0) rfl];kernel_rfl) (by rw [zlL (x:=rd0) rfl,hold]) (ztR g rd0) (hk _ (h.setRow _) (zaK _ _ _))
abbrev zRdr:Array Value:=#[.pointer none,.int .i64 0,.int .i64 0,.int .i64 0,.int .u8 0,.int .u8 0,.int .u8 0,.int .u8 0,.int .u8 0,.int .u8 0,.int .u8 0,.int .u8 0,.int .u8 0,.int .u8 0,.int .u8 0,.int .u8 0,.int .u8 0,.int .u8 0,.int .u8 0,.int .u8 0,.slice none 0 0,.slice none 0 0]
def zs3 (w:World) (r:Bool) (b:List UInt8) (e:Ending) (w':World):Prop :=
 ∃ A n c l,e = .returned (.tuple #[.slice A n c,.int .i64 (rdO r b)])∧RowE tbL mTb wTb w' w.heap.size w'.heap.size A n l∧n≤c∧l.map TbP.tb=rdL r b∧Below w.heap.size w w'
theorem zio {w w':World} {r:Bool} {b:List UInt8} {k:Int} (h:rdO r b=k) (hk:rdL r b=[]) (hb:Below w.heap.size w w'):zs3 w r b (.returned (.tuple #[.slice none 0 0,.int .i64 k])) w' :=
 ⟨none,0,0,[],by rw [h],RowE.nil _ _ _ _,Nat.le_refl _,hk.symm,hb⟩
theorem zjV {r:Bool} {b:List UInt8} (h:rdO r b≠0):rdL r b=[]:=if_neg (fun e=>h e.1)
theorem zkw {r:Bool} {b:List UInt8} (h1:zl8 b=true) (h2:ze8 (famS b) (famF b)=true) (h3:¬ (za1 r (rdT r b)=true∧valT r (rdT r b)=b)):rdO r b=3:=by
 unfold rdO
 rw [if_neg (by rw [h1];decide),if_neg (by rw [h2];decide),if_neg h3]
theorem zu6 {r:Bool} {b:List UInt8} (h1:zl8 b=true) (h2:ze8 (famS b) (famF b)=true) (h3:za1 r (rdT r b)=true∧valT r (rdT r b)=b):rdO r b=0:=by
 unfold rdO
 rw [if_neg (by rw [h1];decide),if_neg (by rw [h2];decide),if_pos h3]
structure GotT (w y:World) (r g:Nat) (reached:Bool) (b:List UInt8) (x:TbP):Prop where
 rg:y.rangeAt r 1 (tbL x)
 m:mTb y w.heap.size y.heap.size x
 e:x.tb=rdT reached b
 bl:Below w.heap.size w y
 nm:zaM w
section
variable {w y z:World} {r g:Nat} {reached:Bool} {b:List UInt8} {x:TbP}
theorem GotT.on (h:GotT w y r g reached b x) (hb:Below y.heap.size y z):GotT w z r g reached b x :=
 ⟨fun j u hu=>by have h1:=h.rg j u hu;rw [hb.cell (World.block_lt_of_cell? _ _ h1)];exact h1,mmTb _ _ _ _ _ _ (Nat.le_refl _) hb.size (mkTb _ _ _ _ _ (fun p _ hp=>hb.cell hp) h.m),h.e,zaa h.bl hb (Nat.le_refl _),h.nm⟩
theorem GotT.sz (h:GotT w y r g reached b x):wTb x:=by unfold wTb;rw [h.e];exact rdT_W _ _
theorem GotT.n (h:GotT w y r g reached b x):zaM y:=h.nm.below h.bl
theorem GotT.nb (h:GotT w y r g reached b x):x.nb.length=16:=zcZ h.sz
end
set_option maxRecDepth 20000 in
set_option maxHeartbeats 4000000 in
theorem ziF (w:World) (lo hi:Nat) (A:Option Addr) (n c:Nat) (b:List UInt8) (reached:Bool) (h:At w lo hi A n b) (hh:hi≤w.heap.size) (hn:n≤1000000000) (hN:zaM w) :
  Calls Tryz.prog 69 #[.slice A n c,.bool reached] w (zs3 w reached b):=by
 have H:=hide h
 have HN:=hide hN
 have HBL:Hid (b.length≤1000000000):=hide (by rw [h.len];exact hn)
 clear h hN
 go_enter Tryz.func69,Tryz.ntmps69
 go_wp2_with fail
 refine (zbV w lo hi A n c b H.out hh (by omega)).mono ?_
 rintro e w1 ⟨g,rfl,hg,hr1,hb1⟩
 have R1:=hide hr1
 have B1:=hide hb1
 have HG:=hide hg
 have NEW:=hide (Blk.new w1 160 zRdr)
 clear hr1 hb1 hg
 go_wp2_with (first
  | (with_reducible refine zhP rfl (.tmp 8) rfl g rfl ?_)
  | (refine zhH rfl (.tmp 6) (.tmp 9) rfl w1.heap.size rfl g rfl NEW.out rfl ?_;intro w2 hb2 hg2;have K2:=hide hb2;have W2:Hid (Below w1.heap.size w1 w2):=hide (((Below.refl _ _).alloc (Nat.le_refl _) _).grown hg2 (by simp) (by simp));clear hb2 hg2;refine Hid.out ?_))
 refine hide ?_
 have S2:Hid (RdrS w.heap.size w2 w1.heap.size g w.heap.size rd0 b false):=hide ⟨K2.out,R1.out.below W2.out R1.out.lt,Nat.le_refl _,HG.out,R1.out.lt,rfl⟩
 have B2:=hide (B1.out.trans (W2.out.mono B1.out.size))
 generalize w1.heap.size=r at *
 clear K2 NEW R1 B1 W2 HG
 go_wp2_with fail
 refine (zpT w.heap.size w2 r g w.heap.size rd0 b false S2.out).mono ?_
 rw [Bool.false_or]
 rintro e w3 ⟨rfl,hs3,hb3⟩
 have S3:=hide hs3
 have B3:=hide (B2.out.trans hb3)
 have k3:=S3.out.c0
 clear hs3 hb3 S2 B2
 obtain ⟨q1,h1⟩:∃ q,zl8 b=q:=⟨_,rfl⟩
 have H1:=hide h1
 rw [h1] at S3
 clear h1
 go_wp2_with fail
 refine (S3.out.rd.bad).mono ?_
 rintro e w4 ⟨rfl,rfl⟩
 cases q1
 ·have HO:Hid (rdO reached b=3):=hide (if_pos H1.out)
  go_wp2
  go_ret2
  exact zio HO.out (zjV (by rw [HO.out];decide)) B3.out
 ·have k4:=S3.out.c0
  have RG3:=hide S3.out.rng
  have HNB3:=hide S3.out.nb
  obtain ⟨q2,h2⟩:∃ q,ze8 (famS b) (famF b)=q:=⟨_,rfl⟩
  have H2:=hide h2
  have HSZ:Hid (wTb { rd0 with s:=famS b,f:=famF b }):=hide ⟨rfl,(fun m hm=>by cases hm),(fun m hm=>by cases hm)⟩
  clear h2
  go_wp2_with ((with_reducible refine zan ?_ (.tmp 16) rfl r 1 rfl _ RG3.out HNB3.out ?_);· rfl)
  refine (zjJ w3 _ HSZ.out).mono ?_
  rw [H2.out]
  rintro e w4 ⟨rfl,hb4⟩
  have S4:=hide (S3.out.on hb4)
  have B4:=hide (B3.out.trans (hb4.mono B3.out.size))
  clear hb4 S3 B3 k3 k4 RG3
  cases q2
  ·have HO:Hid (rdO reached b=1):=hide (by unfold rdO;rw [if_neg (by rw [H1.out];decide),if_pos H2.out])
   go_wp2
   go_ret2
   exact zio HO.out (zjV (by rw [HO.out];decide)) B4.out
  ·cases reached
   ·go_wp2_with fail
    refine (zhs w.heap.size w4 r g w.heap.size _ (fam3 b) _ S4.out (Nat.le_trans (znh b) HBL.out) (fun z hz=>HN.out.below (B4.out.trans hz)) ⟨rfl,rfl,rfl,rfl⟩ ⟨rfl,rfl,rfl,rfl⟩).mono ?_
    rintro e w5 ⟨rfl,A5,n5,c5,bs5,bad5,hs5,hm5,hb5⟩
    have hX:=zu5 false b A5 n5 c5
    simp only [Bool.false_eq_true,if_false] at hX
    generalize zhr { rd0 with s:=famS b,f:=famF b } (fam3 b) A5 n5 c5=X at *
    have G5:Hid (GotT w w5 r g false b X):=hide ⟨hs5.rng,hm5,hX,B4.out.trans hb5,HN.out⟩
    have FT:=hide (zsd hm5 hX HBL.out)
    have XNB:=hide G5.out.nb
    have XSZ:=hide G5.out.sz
    have HE:=hide hX
    have R5:=hide G5.out.rg
    clear hs5 hm5 hX hb5
    obtain ⟨q3,h3⟩:∃ q,za1 false X.tb=q:=⟨_,rfl⟩
    have H3:=hide h3
    clear h3
    go_wp2_with ((with_reducible refine zan ?_ (.tmp 23) rfl r 1 rfl X R5.out XNB.out ?_);· rfl)
    refine (zfr w5 _ _ X false G5.out.m XSZ.out (Nat.le_refl _) FT.out G5.out.n).mono ?_
    rw [H3.out]
    rintro e w6 ⟨rfl,hb6⟩
    have G6:=hide (G5.out.on hb6)
    have R6:=hide G6.out.rg
    clear hb6 G5 R5
    cases q3
    ·have HO:Hid (rdO false b=3):=hide (zkw H1.out H2.out (fun h=>by rw [← HE.out,H3.out] at h;cases h.1))
     go_wp2
     go_ret2
     exact zio HO.out (zjV (by rw [HO.out];decide)) G6.out.bl
    ·go_wp2_with ((with_reducible refine zan ?_ (.tmp 29) rfl r 1 rfl X R6.out XNB.out ?_);· rfl)
     refine (zes w6 _ _ X false G6.out.m XSZ.out (Nat.le_refl _) FT.out G6.out.n H3.out).mono ?_
     rintro e w7 ⟨v7,rfl,ho7,hb7⟩
     obtain ⟨A7,c7,rfl,_,_⟩:=zac ho7
     have T7:=hide (At.own ho7)
     have G7:=hide (G6.out.on hb7)
     have R7:=hide G7.out.rg
     have I7:=hide (H.out.below (G7.out.bl.mono hh))
     obtain ⟨q4,h4⟩:∃ q,decide (valT false X.tb=b)=q:=⟨_,rfl⟩
     have H4:=hide h4
     clear ho7 hb7 h4 G6 R6
     go_wp2_with fail
     refine (zcS w7 _ _ _ _ _ _ _ _ _ _ (valT false X.tb) b T7.out I7.out).mono ?_
     rw [H4.out]
     rintro e w8 ⟨rfl,rfl⟩
     cases q4
     ·have HO:Hid (rdO false b=3):=hide (zkw H1.out H2.out (fun h=>by rw [← HE.out] at h;exact of_decide_eq_false H4.out h.2))
      go_wp2
      go_ret2
      exact zio HO.out (zjV (by rw [HO.out];decide)) G7.out.bl
     ·have HO:Hid (rdO false b=0):=hide (zu6 H1.out H2.out ⟨by rw [← HE.out];exact H3.out,by rw [← HE.out];exact of_decide_eq_true H4.out⟩)
      go_wp2_with (first
       | ((with_reducible refine zan ?_ (.tmp 44) rfl r 1 rfl X R7.out XNB.out ?_);· rfl)
       | ((with_reducible refine zdx ?_ (.tmp 45) rfl X rfl XNB.out ?_);· rfl))
      go_ret2
      have HW9:Below w7.heap.size w7 (w7.alloc (.cells (tbC X) 53)):=(Below.refl _ _).alloc (Nat.le_refl _) _
      have G9:=G7.out.on HW9
      refine ⟨some ⟨w7.heap.size,0,none⟩,1,1,[X],by rw [HO.out];rfl,⟨(AtG.one (Blk.new w7 53 (tbC X))).more G7.out.bl.size (by simp),fun y hy=>by rw [List.mem_singleton.1 hy];exact G9.m,fun y hy=>by rw [List.mem_singleton.1 hy];exact XSZ.out⟩,Nat.le_refl _,?_,G9.bl⟩
      show [X.tb]=_
      unfold rdL
      rw [if_pos ⟨HO.out,fun h=>by cases h⟩,← HE.out]
   ·go_wp2_with fail
    refine (zpu w.heap.size w4 r g w.heap.size _ (fam3 b) _ S4.out).mono ?_
    rintro e w5 ⟨rfl,⟨bad5,hs5⟩,hb5⟩
    have S5:Hid (RdrS w.heap.size w5 r g w.heap.size { rd0 with s:=famS b,f:=famF b,ns:=ofS (nxA b),nb:=ofB (nxA b) } (nx6 b) bad5):=hide hs5
    have B5:=hide (B4.out.trans hb5)
    clear hs5 hb5 S4 B4
    go_wp2_with fail
    refine (zhs w.heap.size w5 r g w.heap.size _ (nx6 b) _ S5.out (Nat.le_trans (zu9 b) HBL.out) (fun z hz=>HN.out.below (B5.out.trans hz)) ⟨rfl,rfl,rfl,rfl⟩ ⟨rfl,rfl,rfl,rfl⟩).mono ?_
    rintro e w5 ⟨rfl,A5,n5,c5,bs5,bad6,hs5,hm5,hb5⟩
    have hX:=zu5 true b A5 n5 c5
    simp only [if_true] at hX
    generalize zhr { rd0 with s:=famS b,f:=famF b,ns:=ofS (nxA b),nb:=ofB (nxA b) } (nx6 b) A5 n5 c5=X at *
    have G5:Hid (GotT w w5 r g true b X):=hide ⟨hs5.rng,hm5,hX,B5.out.trans hb5,HN.out⟩
    have FT:=hide (zsd hm5 hX HBL.out)
    have XNB:=hide G5.out.nb
    have XSZ:=hide G5.out.sz
    have HE:=hide hX
    have R5:=hide G5.out.rg
    clear hs5 hm5 hX hb5
    obtain ⟨q3,h3⟩:∃ q,za1 true X.tb=q:=⟨_,rfl⟩
    have H3:=hide h3
    clear h3
    go_wp2_with ((with_reducible refine zan ?_ (.tmp 23) rfl r 1 rfl X R5.out XNB.out ?_);· rfl)
    refine (zfr w5 _ _ X true G5.out.m XSZ.out (Nat.le_refl _) FT.out G5.out.n).mono ?_
    rw [H3.out]
    rintro e w6 ⟨rfl,hb6⟩
    have G6:=hide (G5.out.on hb6)
    have R6:=hide G6.out.rg
    clear hb6 G5 R5
    cases q3
    ·have HO:Hid (rdO true b=3):=hide (zkw H1.out H2.out (fun h=>by rw [← HE.out,H3.out] at h;cases h.1))
     go_wp2
     go_ret2
     exact zio HO.out (zjV (by rw [HO.out];decide)) G6.out.bl
    ·go_wp2_with ((with_reducible refine zan ?_ (.tmp 29) rfl r 1 rfl X R6.out XNB.out ?_);· rfl)
     refine (zes w6 _ _ X true G6.out.m XSZ.out (Nat.le_refl _) FT.out G6.out.n H3.out).mono ?_
     rintro e w7 ⟨v7,rfl,ho7,hb7⟩
     obtain ⟨A7,c7,rfl,_,_⟩:=zac ho7
     have T7:=hide (At.own ho7)
     have G7:=hide (G6.out.on hb7)
     have R7:=hide G7.out.rg
     have I7:=hide (H.out.below (G7.out.bl.mono hh))
     obtain ⟨q4,h4⟩:∃ q,decide (valT true X.tb=b)=q:=⟨_,rfl⟩
     have H4:=hide h4
     clear ho7 hb7 h4 G6 R6
     go_wp2_with fail
     refine (zcS w7 _ _ _ _ _ _ _ _ _ _ (valT true X.tb) b T7.out I7.out).mono ?_
     rw [H4.out]
     rintro e w8 ⟨rfl,rfl⟩
     cases q4
     ·have HO:Hid (rdO true b=3):=hide (zkw H1.out H2.out (fun h=>by rw [← HE.out] at h;exact of_decide_eq_false H4.out h.2))
      go_wp2
      go_ret2
      exact zio HO.out (zjV (by rw [HO.out];decide)) G7.out.bl
     ·have HO:Hid (rdO true b=0):=hide (zu6 H1.out H2.out ⟨by rw [← HE.out];exact H3.out,by rw [← HE.out];exact of_decide_eq_true H4.out⟩)
      obtain ⟨q5,h5⟩:∃ q,hasT X.tb=q:=⟨_,rfl⟩
      have H5:=hide h5
      clear h5
      go_wp2_with ((with_reducible refine zan ?_ (.tmp 39) rfl r 1 rfl X R7.out XNB.out ?_);· rfl)
      refine (znK w7 _ _ X G7.out.m XSZ.out (Nat.le_refl _) FT.out).mono ?_
      rw [H5.out]
      rintro e w8 ⟨rfl,hb8⟩
      have G8:=hide (G7.out.on hb8)
      have R8:=hide G8.out.rg
      clear hb8 G7 R7
      cases q5
      ·go_wp2
       go_ret2
       exact zio HO.out (if_neg (fun h=>by have h9:=h.2 rfl;rw [← HE.out,H5.out] at h9;cases h9)) G8.out.bl
      ·go_wp2_with (first
        | ((with_reducible refine zan ?_ (.tmp 44) rfl r 1 rfl X R8.out XNB.out ?_);· rfl)
        | ((with_reducible refine zdx ?_ (.tmp 45) rfl X rfl XNB.out ?_);· rfl))
       go_ret2
       have HW9:Below w8.heap.size w8 (w8.alloc (.cells (tbC X) 53)):=(Below.refl _ _).alloc (Nat.le_refl _) _
       have G9:=G8.out.on HW9
       refine ⟨some ⟨w8.heap.size,0,none⟩,1,1,[X],by rw [HO.out];rfl,⟨(AtG.one (Blk.new w8 53 (tbC X))).more G8.out.bl.size (by simp),fun y hy=>by rw [List.mem_singleton.1 hy];exact G9.m,fun y hy=>by rw [List.mem_singleton.1 hy];exact XSZ.out⟩,Nat.le_refl _,?_,G9.bl⟩
       show [X.tb]=_
       unfold rdL
       rw [if_pos ⟨HO.out,fun _=>by rw [← HE.out];exact H5.out⟩,← HE.out]
end
section
open Go.RowKit
def zdv:UpP:=⟨zeB,none,0,0,[],none,0,0,[]⟩
theorem zcK:zdv.at_.ob.length=16:=rfl
abbrev zUpd:Array Value:=#[.int .i64 0,.slice none 0 0,.int .i64 0,.int .i64 0,.int .i64 0,.int .u8 0,.int .u8 0,.int .u8 0,.int .u8 0,.int .u8 0,.int .u8 0,.int .u8 0,.int .u8 0,.int .u8 0,.int .u8 0,.int .u8 0,.int .u8 0,.int .u8 0,.int .u8 0,.int .u8 0,.int .u8 0,.slice none 0 0,.slice none 0 0,.slice none 0 0,.slice none 0 0,.slice none 0 0]
theorem zsC:Tryz.prog.built 33 [(0,.agg (attC zeB))]=some (updC zdv):=by kernel_rfl
theorem zhO {ops:Array Oper} {rest:List Oper} {o:Oper} {a:Act} {w:World} {Q:Exit→Act→World→Prop} (hgd:o.guard=none) (z:Operand) (ho:o.op = .build 33 #[(0,z)]) (hz:a.eval z = .agg (attC zeB))
  (hk:wpList Tryz.prog ops Q rest (a.put o.dst (.agg (updC zdv))) w):wpList Tryz.prog ops Q (o::rest) a w:=by
 refine wpList_plain hgd fun K hK'=>?_
 unfold Oper.wp execOp
 simp only [ho,List.map_toArray,List.map_cons,List.map_nil,hz,Sem.run_bind,run_build w _ _ _ zsC,Result.andThen_ok,Sem.run_pure]
 exact hK' _ _ hk
theorem zkI {w:World} {g i:Nat} {u:UpP} (h:w.rangeAt g i (updL u)) (hl:u.at_.ob.length=16):(loadVar 33 ⟨g,i,none⟩).run Tryz.prog w = .ok (.agg (updC u)) w :=
 run_loadVar_mid w g i 33 (updL u) _ h Tryz.underlying33 rfl (znI hl)
theorem zn5 {fn:Func} {R:Ending→World→Prop} {a:Act} {w:World} {c:Tmp} {g:Nat} {t:TypeId} {u:UpP} (hf:fn.results=#[.cell c 33])
  (hp:a.tmps.getD c undef = .pointer (some ⟨g,0,none⟩)) (h:Blk w g t (updC u)) (hl:u.at_.ob.length=16) (hd:a.defers=[]) (hR:R (.returned (.agg (updC u))) w) :
  bodyPost Tryz.prog fn R .ret a w:=by
 refine bodyPost_ret (v:=.agg (updC u)) ?_ hd hR
 have hp':a.tmps[c]?.getD undef = .pointer (some ⟨g,0,none⟩):=by simpa using hp
 simp [results,hf,hp',asAddr,zkI (zaj (l:=updL u) h) hl]
theorem ztO {fn:Func} {R:Ending→World→Prop} {a:Act} {w:World} {c q:Tmp} {g:Nat} {t:TypeId} {u:UpP} {v:Value} (hf:fn.results=#[.cell c 33,.tmp q])
  (hp:a.tmps.getD c undef = .pointer (some ⟨g,0,none⟩)) (hq:a.tmps.getD q undef=v) (h:Blk w g t (updC u)) (hl:u.at_.ob.length=16) (hd:a.defers=[]) (hR:R (.returned (.tuple #[.agg (updC u),v])) w) :
  bodyPost Tryz.prog fn R .ret a w:=by
 refine bodyPost_ret (v:=.tuple #[.agg (updC u),v]) ?_ hd hR
 have hp':a.tmps[c]?.getD undef = .pointer (some ⟨g,0,none⟩):=by simpa using hp
 have hq':a.tmps[q]?.getD undef=v:=by simpa using hq
 simp [results,hf,hp',hq',asAddr,zkI (zaj (l:=updL u) h) hl]
theorem zgW (w:World):Calls Tryz.prog 14 #[] w fun e w'=>e = .returned (.agg (updC zdv))∧Below w.heap.size w w':=by
 have N0:=hide (Blk.new w 33 zUpd)
 have W0:Hid (Below w.heap.size w (w.alloc (.cells zUpd 33))):=hide ((Below.refl _ _).alloc (Nat.le_refl _) _)
 go_enter Tryz.func14,Tryz.ntmps14
 go_wp2_with fail
 refine (zdZ _).mono ?_
 rintro e w1 ⟨rfl,hb1⟩
 have N1:=hide (N0.out.over hb1)
 have W1:=hide (zaa W0.out hb1 (by simp))
 clear hb1 N0 W0
 go_wp2_with (first
  | (with_reducible refine zhO rfl (.tmp 1) rfl rfl ?_)
  | (refine zau rfl (.tmp 0) (.tmp 2) rfl w.heap.size rfl zdv rfl zcK N1.out rfl ?_;intro w2 hb2 hg2;have K2:=hide hb2;have G2:=hide hg2;clear hb2 hg2;refine Hid.out ?_))
 refine hide ?_
 go_wp2
 refine zn5 (c:=0) rfl rfl K2.out zcK rfl ?_
 exact ⟨rfl,W1.out.grown G2.out W1.out.size (fun g hg=>by injection hg with hg;omega)⟩
def zcf (s:List Tb × List Tb × Int) (x:Rw):List Tb × List Tb × Int :=
 if x.k=14 then (rdL true x.v,s.2.1,max s.2.2 (rdO true x.v)) else if x.k=15 then (s.1,rdL false x.v,max s.2.2 (rdO false x.v)) else (s.1,s.2.1,max s.2.2 0)
def tabs (l:List Rw):List Tb × List Tb × Int:=l.foldl zcf ([],[],0)
theorem zqG {l:List Rw} {k:Nat} {x:Rw} (h:l[k]?=some x):tabs (l.take (k+1))=zcf (tabs (l.take k)) x:=by
 unfold tabs
 rw [List.take_add_one,h,List.foldl_append]
 rfl
structure TbsS (w y:World) (ub:Nat) (U:UpP) (rs:List Rw):Prop where
 b:Blk y ub 33 (updC U)
 at_:UpAt y (ub+1) y.heap.size U
 res:Blk y w.heap.size 33 zUpd
 bl:Below w.heap.size w y
 hu:w.heap.size<ub
 ua:U.up.at_=zci
 ur:U.up.re=(tabs rs).1
 un:U.up.un=(tabs rs).2.1
section
variable {w y z:World} {ub:Nat} {U:UpP} {rs:List Rw}
theorem TbsS.on (h:TbsS w y ub U rs) (hb:Below y.heap.size y z):TbsS w z ub U rs :=
 ⟨h.b.over hb,(h.at_.below hb).more (Nat.le_refl _) hb.size,h.res.over hb,zaa h.bl hb (Nat.le_refl _),h.hu,h.ua,h.ur,h.un⟩
theorem TbsS.c24 (h:TbsS w y ub U rs):y.cell? ⟨ub,24,none⟩=some (.slice U.rA U.rn U.rc):=by
 rw [h.b.cell];unfold updC;simpa using zgV h.at_.ob
theorem TbsS.c25 (h:TbsS w y ub U rs):y.cell? ⟨ub,25,none⟩=some (.slice U.nA U.nn U.nc):=by
 rw [h.b.cell];unfold updC;simpa using zeY h.at_.ob
theorem TbsS.fz (h:TbsS w y ub U rs) (i:Nat):y.frozen? ⟨ub,i,none⟩=false:=h.b.frozen i
theorem zqu {U:UpP} (h:U.at_.ob.length=16) (j:Nat) (hj:j<2) (v:Value):(updC U).setIfInBounds (24+j) v=(attL U.at_++([.slice U.rA U.rn U.rc,.slice U.nA U.nn U.nc].set j v)).toArray:=by
 apply Array.toList_inj.1
 rw [Array.toList_setIfInBounds]
 unfold updC updL
 show List.set _ (24+j) _=_
 rw [List.set_append_right _ _ (by rw [zbg h];omega),zbg h,show 24+j-24=j by omega]
theorem zqt {U:UpP} (h:U.at_.ob.length=16) (A:Option Addr) (n c:Nat) (l:List TbP):(updC U).setIfInBounds 24 (.slice A n c)=updC { U with rA:=A,rn:=n,rc:=c,re:=l }:=zqu h 0 (by decide) _
theorem zlk {U:UpP} (h:U.at_.ob.length=16) (A:Option Addr) (n c:Nat) (l:List TbP):(updC U).setIfInBounds 25 (.slice A n c)=updC { U with nA:=A,nn:=n,nc:=c,ne:=l }:=zqu h 1 (by decide) _
theorem TbsS.setr (h:TbsS w y ub U rs) {A:Option Addr} {n c:Nat} {l:List TbP} {lo:Nat} (hr:RowE tbL mTb wTb y lo y.heap.size A n l) (hlo:ub<lo) (hc:n≤c) (x:Rw) (hk:x.k=14) {rs':List Rw} (hx:tabs rs'=zcf (tabs rs) x) (hl:l.map TbP.tb=rdL true x.v) :
  TbsS w (y.setCell ⟨ub,24,none⟩ (.slice A n c)) ub { U with rA:=A,rn:=n,rc:=c,re:=l } rs':=by
 have hg:y.grownBy (y.setCell ⟨ub,24,none⟩ (.slice A n c)) (some ub):=zaH (zad _ _) (.inl rfl) _
 have hkp:∀ q:Addr,ub+1≤q.block→q.block<y.heap.size→(y.setCell ⟨ub,24,none⟩ (.slice A n c)).cell? q=y.cell? q:=fun q h1 h2=>World.cell?_of_block (hg.block q.block h2 (fun e=>by injection e;omega))
 have hb:=h.b.set_ 24 (.slice A n c)
 rw [zqt h.at_.ob A n c l] at hb
 have hat:=(h.at_.keep hkp).more (Nat.le_refl _) hg.size
 refine ⟨hb,⟨hat.at_,((hr.more mmTb (lo':=ub+1) hlo (Nat.le_refl _)).keep mkTb hkp).more mmTb (Nat.le_refl _) hg.size,hat.ne,hc,hat.nc⟩,h.res.grown hg (by have:=h.hu;simp;omega),h.bl.grown hg h.bl.size (fun g hg=>by injection hg with hg;have:=h.hu;omega),h.hu,h.ua,?_,?_⟩
 ·show l.map TbP.tb=_
  rw [hx,hl];unfold zcf;rw [if_pos hk]
 ·rw [hx];unfold zcf;rw [if_pos hk];exact h.un
theorem TbsS.setn (h:TbsS w y ub U rs) {A:Option Addr} {n c:Nat} {l:List TbP} {lo:Nat} (hr:RowE tbL mTb wTb y lo y.heap.size A n l) (hlo:ub<lo) (hc:n≤c) (x:Rw) (hk:x.k=15) {rs':List Rw} (hx:tabs rs'=zcf (tabs rs) x) (hl:l.map TbP.tb=rdL false x.v) :
  TbsS w (y.setCell ⟨ub,25,none⟩ (.slice A n c)) ub { U with nA:=A,nn:=n,nc:=c,ne:=l } rs':=by
 have hg:y.grownBy (y.setCell ⟨ub,25,none⟩ (.slice A n c)) (some ub):=zaH (zad _ _) (.inl rfl) _
 have hkp:∀ q:Addr,ub+1≤q.block→q.block<y.heap.size→(y.setCell ⟨ub,25,none⟩ (.slice A n c)).cell? q=y.cell? q:=fun q h1 h2=>World.cell?_of_block (hg.block q.block h2 (fun e=>by injection e;omega))
 have hb:=h.b.set_ 25 (.slice A n c)
 rw [zlk h.at_.ob A n c l] at hb
 have hat:=(h.at_.keep hkp).more (Nat.le_refl _) hg.size
 refine ⟨hb,⟨hat.at_,hat.re,((hr.more mmTb (lo':=ub+1) hlo (Nat.le_refl _)).keep mkTb hkp).more mmTb (Nat.le_refl _) hg.size,hat.rc,hc⟩,h.res.grown hg (by have:=h.hu;simp;omega),h.bl.grown hg h.bl.size (fun g hg=>by injection hg with hg;have:=h.hu;omega),h.hu,h.ua,?_,?_⟩
 ·rw [hx];unfold zcf;rw [if_neg (by omega),if_pos hk];exact h.ur
 ·show l.map TbP.tb=_
  rw [hx,hl];unfold zcf;rw [if_neg (by omega),if_pos hk]
theorem TbsS.pass (h:TbsS w y ub U rs) (x:Rw) (h4:x.k≠14) (h5:x.k≠15) {rs':List Rw} (hx:tabs rs'=zcf (tabs rs) x):TbsS w y ub U rs' :=
 ⟨h.b,h.at_,h.res,h.bl,h.hu,h.ua,by rw [hx];unfold zcf;rw [if_neg h4,if_neg h5];exact h.ur,by rw [hx];unfold zcf;rw [if_neg h4,if_neg h5];exact h.un⟩
end
def zuV (w:World) (rs:List Rw) (e:Ending) (w':World):Prop :=
 ∃ U:UpP,e = .returned (.tuple #[.agg (updC U),.int .i64 (tabs rs).2.2])∧UpAt w' w.heap.size w'.heap.size U∧U.up=⟨zci,(tabs rs).1,(tabs rs).2.1⟩∧Below w.heap.size w w'
abbrev zRaw:Array Value:=#[.int .i64 0,.int .i64 0,.slice none 0 0]
set_option maxRecDepth 20000 in
set_option maxHeartbeats 4000000 in
theorem zoT (w:World) (lo hi:Nat) (A:Option Addr) (n c:Nat) (l:List RawP) (h:zbT w lo hi A n l) (hh:hi≤w.heap.size) (hn:n≤100000) (hv:∀ x∈l,x.v.length≤1000000000) (hN:zaM w) :
  Calls Tryz.prog 32 #[.slice A n c] w (zuV w (l.map RawP.raw)):=by
 have H:=hide h
 have HL:=hide h.len
 have HV:=hide hv
 have HN:=hide hN
 have N0:=hide (Blk.new w 33 zUpd)
 have W0:Hid (Below w.heap.size w (w.alloc (.cells zUpd 33))):=hide ((Below.refl _ _).alloc (Nat.le_refl _) _)
 clear h hv hN
 go_enter Tryz.func32,Tryz.ntmps32
 go_wp2_with fail
 refine (zgW _).mono ?_
 rintro e w1 ⟨rfl,hb1⟩
 have N1:=hide (N0.out.over hb1)
 have W1:=hide (zaa W0.out hb1 (by simp))
 have HZ1:Hid (w.heap.size<w1.heap.size):=hide N1.out.lt
 have NEW:=hide (Blk.new w1 33 zUpd)
 clear hb1 N0 W0
 go_wp2_with (refine zau rfl (.tmp 4) (.tmp 9) rfl w1.heap.size rfl zdv rfl zcK NEW.out rfl ?_;intro w2 hb2 hg2;have K2:=hide hb2;have W2:Hid (Below w1.heap.size w1 w2):=hide (((Below.refl _ _).alloc (Nat.le_refl _) _).grown hg2 (by simp) (by simp));clear hb2 hg2;refine Hid.out ?_)
 refine hide ?_
 have S2:Hid (TbsS w w2 w1.heap.size zdv []):=hide ⟨K2.out,⟨zd7 _ _ _,RowE.nil _ _ _ _,RowE.nil _ _ _ _,Nat.le_refl _,Nat.le_refl _⟩,N1.out.over W2.out,zaa W1.out W2.out (Nat.le_refl _),HZ1.out,rfl,rfl,rfl⟩
 generalize w1.heap.size=ub at *
 clear K2 W2 NEW N1 W1 HZ1
 go_wp2_with fail
 go_loopw [5,12] (fun v i wr=>∃ (k:Nat) (U:UpP),k≤n∧v = .int .i64 (tabs ((l.map RawP.raw).take k)).2.2∧i = .int .i64 k∧TbsS w wr ub U ((l.map RawP.raw).take k)) (fun _ i _=>n-(intOf i).toNat)
 case atStart=>exact ⟨0,zdv,Nat.zero_le _,rfl,rfl,S2.out⟩
 case round =>
  obtain ⟨k,U,hk,rfl,rfl,hs⟩:=hrel
  have S:=hide hs
  clear hs
  by_cases hlt:k<n
  ·have hkl:((k:Nat):Int)<(n:Int):=by omega
   have YR:=hide (H.out.below (S.out.bl.mono hh))
   obtain ⟨b,o,x,rfl,_,_,hx,hat,hval,hcap⟩:=YR.out.at_ hlt
   have HX:Hid ((l.map RawP.raw)[k]?=some x.raw):=hide (by rw [List.getElem?_map,hx];rfl)
   have HXV:=hide (HV.out x (List.mem_of_getElem? hx))
   have HAT:=hide hat
   have HVAL:=hide hval
   have HNX:=hide (zqG HX.out)
   generalize hT:tabs ((l.map RawP.raw).take k)=T at *
   have HT:=hide hT
   have NEW:=hide (Blk.new wr 89 zRaw)
   have HLX:=hide hval.len
   clear hx hat hval YR hT
   go_wp2_with (first
    | (with_reducible refine zcY rfl (.tmp 14) rfl rfl HAT.out ?_)
    | (refine zb8 rfl (.tmp 7) (.tmp 15) rfl wr.heap.size rfl x rfl NEW.out rfl ?_;intro w3 hb3 hg3;have K3:=hide hb3;have W3:Hid (Below wr.heap.size wr w3):=hide (((Below.refl _ _).alloc (Nat.le_refl _) _).grown hg3 (by simp) (by simp));clear hb3 hg3;refine Hid.out ?_))
   refine hide ?_
   have S3:=hide (S.out.on W3.out)
   have V3:=hide (HVAL.out.below (W3.out.mono (Nat.le_trans hh S.out.bl.size)))
   have N3:=hide (HN.out.below S3.out.bl)
   have k1:w3.cell? ⟨wr.heap.size,1,none⟩=some (.int .i64 x.k):=K3.out.cell 1
   have k2:w3.cell? ⟨wr.heap.size,2,none⟩=some (.slice x.A x.n x.c):=K3.out.cell 2
   have hh3:hi≤w3.heap.size:=Nat.le_trans hh S3.out.bl.size
   have hxn:x.n≤1000000000:=by have:=HXV.out;have:=HLX.out;omega
   have HU3:=hide S3.out.b.lt
   obtain ⟨F,K,A9,n9,c9,v9⟩:=x
   dsimp only at k1 k2 hxn hcap
   clear K3 W3 S HVAL HXV HLX NEW HAT
   by_cases h14:K=14
   ·subst h14
    have HX2:Hid ((tabs ((l.map RawP.raw).take (k+1))).2.2=max T.2.2 (rdO true v9)):=hide (by rw [HNX.out];rfl)
    go_wp2_with fail
    refine (ziF w3 lo hi A9 n9 c9 v9 true V3.out hh3 hxn N3.out).mono ?_
    rintro e w4 ⟨A4,n4,c4,l4,rfl,hr4,hc4,hl4,hb4⟩
    have S4:=hide (S3.out.on hb4)
    have k24:=S4.out.c24
    have f24:=S4.out.fz 24
    have HS5:=hide (S4.out.setr hr4 (lo:=w3.heap.size) HU3.out hc4 ⟨F,14,v9⟩ rfl (rs':=(l.map RawP.raw).take (k+1)) (by rw [HT.out];exact HNX.out) hl4)
    generalize rdO true v9=ro at *
    clear hr4 hc4 hl4 hb4 S3 V3 N3
    go_wp2_with fail
    go_roundw
    case rel=>exact ⟨k+1,_,by omega,by rw [HX2.out],by go_num,HS5.out⟩
    case measure=>simp [intOf];omega
   ·by_cases h15:K=15
    ·subst h15
     have HX2:Hid ((tabs ((l.map RawP.raw).take (k+1))).2.2=max T.2.2 (rdO false v9)):=hide (by rw [HNX.out];rfl)
     go_wp2_with fail
     refine (ziF w3 lo hi A9 n9 c9 v9 false V3.out hh3 hxn N3.out).mono ?_
     rintro e w4 ⟨A4,n4,c4,l4,rfl,hr4,hc4,hl4,hb4⟩
     have S4:=hide (S3.out.on hb4)
     have k25:=S4.out.c25
     have f25:=S4.out.fz 25
     have HS5:=hide (S4.out.setn hr4 (lo:=w3.heap.size) HU3.out hc4 ⟨F,15,v9⟩ rfl (rs':=(l.map RawP.raw).take (k+1)) (by rw [HT.out];exact HNX.out) hl4)
     generalize rdO false v9=ro at *
     clear hr4 hc4 hl4 hb4 S3 V3 N3
     go_wp2_with fail
     go_roundw
     case rel=>exact ⟨k+1,_,by omega,by rw [HX2.out],by go_num,HS5.out⟩
     case measure=>simp [intOf];omega
    ·have HS5:=hide (S3.out.pass ⟨F,K,v9⟩ h14 h15 (rs':=(l.map RawP.raw).take (k+1)) (by rw [HT.out];exact HNX.out))
     have HX2:Hid ((tabs ((l.map RawP.raw).take (k+1))).2.2=max T.2.2 0):=hide (by rw [HNX.out];unfold zcf;rw [if_neg (show ¬ (RawP.raw ⟨F,K,A9,n9,c9,v9⟩).k=14 from h14),if_neg (show ¬ (RawP.raw ⟨F,K,A9,n9,c9,v9⟩).k=15 from h15)])
     go_wp2_with fail
     go_roundw
     case rel=>exact ⟨k+1,U,by omega,by rw [HX2.out],by go_num,HS5.out⟩
     case measure=>simp [intOf];omega
  ·obtain rfl:k=n:=by omega
   have hkl:¬ ((k:Nat):Int)<(k:Int):=by omega
   have HOB:=hide S.out.at_.ob
   have RG:=hide (zaj (l:=updL U) S.out.b)
   have HTK:Hid ((l.map RawP.raw).take k=l.map RawP.raw):=hide (List.take_of_length_le (by rw [List.length_map,HL.out];exact Nat.le_refl _))
   go_wp2_with (first
    | ((with_reducible refine zaV ?_ (.tmp 4) rfl ub 0 rfl U RG.out HOB.out ?_);· rfl)
    | (refine zau rfl (.tmp 2) (.tmp 40) rfl w.heap.size rfl U rfl HOB.out S.out.res rfl ?_;intro w3 hb3 hg3;have K3:=hide hb3;have G3:=hide hg3;clear hb3 hg3;refine Hid.out ?_))
   refine hide ?_
   go_wp2
   refine ztO (c:=2) (q:=3) (v:=.int .i64 _) rfl rfl rfl K3.out HOB.out rfl ?_
   have hbz:=S.out.bl.grown G3.out S.out.bl.size (fun g hg=>by injection hg with hg;omega)
   refine ⟨U,by rw [HTK.out],?_,?_,hbz⟩
   ·exact (S.out.at_.keep (fun q h1 h2=>World.cell?_of_block (G3.out.block q.block h2 (fun e=>by injection e with e;have:=S.out.hu;omega)))).more (by have:=S.out.hu;omega) G3.out.size
   ·have e1:=S.out.ua
    have e2:=S.out.ur
    have e3:=S.out.un
    rw [HTK.out] at e2 e3
    cases hU:U.up
    rw [hU] at e1 e2 e3
    simp only at e1 e2 e3
    rw [e1,e2,e3]
end
end Go.Proofs.YtookpplebikfnaaGreatDoor
