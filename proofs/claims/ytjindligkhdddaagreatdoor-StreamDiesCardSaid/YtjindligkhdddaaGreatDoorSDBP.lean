/-
  A stream in memory: New, Waiting, Broken, keep. The one condition: bytes that fit memory.
  Feed: whatever bytes come, behind whatever waits. The conditions: so few bytes, the library's tables hold what their texts lay.
  Feed: whatever bytes come, behind whatever waits. The conditions: so few bytes, the library's tables hold what their texts lay.
-/
import Derived.Test.YtjindligkhdddaaGreatDoorSDBO
set_option linter.unusedVariables false
set_option linter.unusedSimpArgs false
namespace Go.Proofs.YtjindligkhdddaaGreatDoor
section
open Go.RowKit
abbrev stC (d:Bool) (x:NoP) (v:Value):Array Value:=#[.bool d,.int .i64 x.c,.int .i64 x.s,.slice x.dA x.dn x.dc,v]
structure StAt (w:World) (B sp:Nat) (d:Bool) (x:NoP) (v:Value) (R:List UInt8):Prop where
 blk:Blk w sp 62 (stC d x v)
 own:w.ownsRow B 5 1 v R.length (bvs R)
 note:NoAt w (sp+1) w.heap.size x
 lo:B≤sp
 ne:v.ownBlock≠some sp
section
variable {w w':World} {B sp:Nat} {d:Bool} {x:NoP} {v:Value} {R:List UInt8}
theorem StAt.shape (h:StAt w B sp d x v R):∃ A c,v = .slice A R.length c∧R.length≤c∧c≤maxLen:=zag h.own
theorem NoAt.below_ {lo:Nat} (h:NoAt w lo w.heap.size x) (hb:Below w.heap.size w w'):NoAt w' lo w'.heap.size x:=⟨(h.row.below hb).more (Nat.le_refl _) hb.size,h.c⟩
theorem StAt.over (h:StAt w B sp d x v R) (hb:Below w.heap.size w w'):StAt w' B sp d x v R :=
 ⟨h.blk.below hb h.blk.lt,h.own.kept (zaK hb none) (by by_cases e:v.ownBlock=none;exact .inl e;exact .inr e),h.note.below_ hb,h.lo,h.ne⟩
theorem StAt.base (h:StAt w B sp d x v R):B≤w.heap.size:=Nat.le_of_lt (Nat.lt_of_le_of_lt h.lo h.blk.lt)
theorem StAt.c0 (h:StAt w B sp d x v R):w.cell? ⟨sp,0,none⟩=some (.bool d):=by rw [h.blk.cell];rfl
theorem StAt.c1 (h:StAt w B sp d x v R):w.cell? ⟨sp,1,none⟩=some (.int .i64 x.c):=by rw [h.blk.cell];rfl
theorem StAt.c2 (h:StAt w B sp d x v R):w.cell? ⟨sp,2,none⟩=some (.int .i64 x.s):=by rw [h.blk.cell];rfl
theorem StAt.c3 (h:StAt w B sp d x v R):w.cell? ⟨sp,3,none⟩=some (.slice x.dA x.dn x.dc):=by rw [h.blk.cell];rfl
theorem StAt.c4 (h:StAt w B sp d x v R):w.cell? ⟨sp,4,none⟩=some v:=by rw [h.blk.cell];rfl
end
theorem zwc (w:World):Calls Tryz.prog 5 #[] w fun e w'=>∃ sp,e = .returned (.pointer (some ⟨sp,0,none⟩))∧StAt w' w.heap.size sp false (no0 0 0) (.slice none 0 0) []∧Below w.heap.size w w':=by
 go_enter Tryz.func5,Tryz.ntmps5
 go_wp2
 go_ret
 exact ⟨w.heap.size,rfl,⟨Blk.new w _ _,World.ownsRow_nil _ _ _ _,⟨At.nil _ _ _ _,Nat.le_refl _⟩,Nat.le_refl _,by simp [Value.ownBlock]⟩,(Below.refl _ _).alloc (Nat.le_refl _) _⟩
theorem zgQ (w:World) {B sp:Nat} {d:Bool} {x:NoP} {v:Value} {R:List UInt8} (h:StAt w B sp d x v R):Calls Tryz.prog 8 #[.pointer (some ⟨sp,0,none⟩)] w fun e w'=>e = .returned (.int .i64 (R.length:Nat))∧w=w':=by
 obtain ⟨A,c,rfl,_,_⟩:=h.shape
 have c4:=h.c4
 clear h
 go_enter Tryz.func8,Tryz.ntmps8
 go_wp2
 go_ret
 exact ⟨rfl,rfl⟩
theorem zp6 {fn:Func} {R:Ending→World→Prop} {a:Act} {w:World} {d r:Tmp} {g:Nat} {t:TypeId} {x:NoP} {vr:Value} (hf:fn.results=#[.cell d 30,.tmp r])
  (hn:a.tmps.getD d undef = .pointer (some ⟨g,0,none⟩)) (hr:a.tmps.getD r undef=vr) (h:Blk w g t (noC x)) (hd:a.defers=[])
  (hR:R (.returned (.tuple #[.agg (noC x),vr])) w):bodyPost Tryz.prog fn R .ret a w:=by
 refine bodyPost_ret (v:=.tuple #[.agg (noC x),vr]) ?_ hd hR
 have hn':a.tmps[d]?.getD undef = .pointer (some ⟨g,0,none⟩):=by simpa using hn
 have hr':a.tmps[r]?.getD undef=vr:=by simpa using hr
 simp [results,hf,hn',hr',asAddr,zbR (zah (l:=noL x) h)]
abbrev set3 (w:World) (g:Nat) (a b c:Value):World:=((w.drew.setCell ⟨g,0,none⟩ a).setCell ⟨g,1,none⟩ b).setCell ⟨g,2,none⟩ c
theorem zkj (w:World) (g:Nat) (a b c:Value):w.grownBy (set3 w g a b c) (some g):=by
 have h0:w.grownBy w.drew (some g):=zax (zac w _)
 have h1:=zao h0 (p:=⟨g,0,none⟩) (.inl rfl) a
 have h2:=zao h1 (p:=⟨g,1,none⟩) (.inl rfl) b
 exact zao h2 (p:=⟨g,2,none⟩) (.inl rfl) c
theorem zvN {W:World} {g:Nat} {t:TypeId} {p q r:Value} (h:Blk W g t #[p,q,r]) (a b c:Value):Blk (set3 W g a b c) g t #[a,b,c]:=by
 have:=((h.drew.set_ 0 a).set_ 1 b).set_ 2 c
 simpa using this
theorem zyj {W:World} {B g n c':Nat} {A:Option Addr} {l:List UInt8} (h:W.ownsRow B 5 1 (.slice A n c') n (bvs l)) (a b c:Value) (hg:g<B):At (set3 W g a b c) g (set3 W g a b c).heap.size A n l :=
 (At.own (zcE h (zkj W g a b c) hg)).more (Nat.le_of_lt hg) (Nat.le_refl _)
theorem zq2 {w W:World} (h:Below w.heap.size w W) (a b c:Value):Below w.heap.size w (set3 W w.heap.size a b c):=h.grown (zkj W _ a b c) h.size (fun j hj=>by injection hj with hj;omega)
set_option maxRecDepth 20000 in
set_option maxHeartbeats 2000000 in
theorem ziv (w:World) {B sp:Nat} {d:Bool} {x:NoP} {v:Value} {R:List UInt8} (h:StAt w B sp d x v R) (hn:x.dn≤140737488355328) :
  Calls Tryz.prog 7 #[.pointer (some ⟨sp,0,none⟩)] w fun e w'=>∃ A c,e = .returned (.tuple #[.agg #[.int .i64 x.c,.int .i64 x.s,.slice A x.dn c],.bool d])∧At w' w.heap.size w'.heap.size A x.dn x.dl∧x.dn≤c∧c≤maxLen∧Below w.heap.size w w':=by
 have H:=hide h
 have HN:=hide hn
 have hv:=h.over (w':=w.alloc (.cells #[.int .i64 0,.int .i64 0,.slice none 0 0] 30)) ((Below.refl _ _).alloc (Nat.le_refl _) _)
 have c1:=hv.c1
 have c2:=hv.c2
 have c3:=hv.c3
 clear h hn hv
 go_enter Tryz.func7,Tryz.ntmps7
 go_wp2_with fail
 have hb2:Below w.heap.size w ((w.alloc (.cells #[.int .i64 0,.int .i64 0,.slice none 0 0] 30)).alloc (.cells #[.int .i64 x.c,.int .i64 x.s,.slice x.dA x.dn x.dc] 30)):=((Below.refl _ _).alloc (Nat.le_refl _) _).alloc (by simp) _
 have h2:=H.out.over hb2
 have N1:=hide ((Blk.new w 30 #[.int .i64 0,.int .i64 0,.slice none 0 0]).alloc (.cells #[.int .i64 x.c,.int .i64 x.s,.slice x.dA x.dn x.dc] 30))
 have N2:=hide (Blk.new (w.alloc (.cells #[.int .i64 0,.int .i64 0,.slice none 0 0] 30)) 30 #[.int .i64 x.c,.int .i64 x.s,.slice x.dA x.dn x.dc])
 simp only [World.size_alloc] at N2
 refine (zee _ _ _ _ _ _ _ h2.note.row (Nat.le_refl _) HN.out).mono ?_
 rintro e w3 ⟨v3,rfl,o3,b3⟩
 obtain ⟨A3,c3',rfl,hc3,hc3'⟩:=zag o3
 have M1:=hide (N1.out.below b3 (Blk.lt N1.out))
 have M2:=hide (N2.out.below b3 (Blk.lt N2.out))
 have HB:=hide (zaa hb2 b3 (Nat.le_refl _))
 have HO:=hide o3
 have q2:=M2.out.cell 2
 have g2:=M2.out.frozen 2
 have S0:=hide ((h2.over b3).c0)
 clear h2 hb2 o3 b3 c1 c2 c3
 go_wp2_with fail
 obtain ⟨W3,hW3⟩:∃ W3,w3.setCell ⟨w.heap.size+1,2,none⟩ (.slice A3 x.dn c3')=W3:=⟨_,rfl⟩
 have M3:Blk W3 (w.heap.size+1) 30 #[.int .i64 x.c,.int .i64 x.s,.slice A3 x.dn c3']:=by
  rw [← hW3]
  have:=M2.out.set_ 2 (.slice A3 x.dn c3')
  simpa using this
 have M4:Blk W3 w.heap.size 30 #[.int .i64 0,.int .i64 0,.slice none 0 0]:=by
  rw [← hW3]
  exact M1.out.far (p:=⟨w.heap.size+1,2,none⟩) (by show w.heap.size≠w.heap.size+1;omega) _
 have hgw:w3.grownBy W3 (some (w.heap.size+1)):=by rw [← hW3];exact zao (zac _ _) (.inl rfl) _
 have S3:W3.cell? ⟨sp,0,none⟩=some (.bool d):=(World.cell?_of_block (hgw.block sp (by have:=H.out.blk.lt;have:=HB.out.size;omega) (fun e=>by injection e with e;have:=H.out.blk.lt;omega))).trans S0.out
 have O3:=hide (zfX HO.out hgw (by
  cases hv:(Value.slice A3 x.dn c3').ownBlock with
  | none=>exact .inl rfl
  | some g=>exact .inr (fun e=>by injection e with e;have:=(HO.out.lt g hv).1;simp at this;omega)))
 have HB3:=hide (HB.out.grown hgw HB.out.size (fun j hj=>by injection hj with hj;omega))
 rw [hW3]
 clear hW3 hgw S0 M1 M2 N1 N2 q2 g2 HO HB
 have M4':=hide M4
 have e0:=M4.cell 0
 have e1:=M4.cell 1
 have e2:=M4.cell 2
 have f0:=M4.frozen 0
 have f1:=M4.frozen 1
 have f2:=M4.frozen 2
 clear M4
 refine wp_region_held_drew (S:=fun z=>Blk z (w.heap.size+1) 30 #[.int .i64 x.c,.int .i64 x.s,.slice A3 x.dn c3']∧z.cell? ⟨sp,0,none⟩=some (.bool d)) (by kernel_rfl) ⟨M3.drew,S3⟩ (fun hHeld=>?_)
 refine rgA (F:=fun z=>z.cell? ⟨w.heap.size+1,0,none⟩=some (.int .i64 x.c)∧z.cell? ⟨w.heap.size+1,1,none⟩=some (.int .i64 x.s)∧z.cell? ⟨w.heap.size+1,2,none⟩=some (.slice A3 x.dn c3')∧True∧True∧True) (fun z hz=>⟨by rw [hz.1.cell];rfl,by rw [hz.1.cell];rfl,by rw [hz.1.cell];rfl,trivial,trivial,trivial⟩) ?_
 refine rgA (F:=fun _=>True) (fun _ _=>trivial) ?_
 refine rgA (F:=fun _=>True) (fun _ _=>trivial) ?_
 refine rgA (F:=fun _=>True) (fun _ _=>trivial) ?_
 refine rgA (F:=fun _=>True) (fun _ _=>trivial) ?_
 refine rgA (F:=fun z=>z.cell? ⟨sp,0,none⟩=some (.bool d)) (fun z hz=>hz.2) ?_
 refine zau (i:=6) rfl (by kernel_rfl) (by rfl) (w':=((W3.drew.setCell ⟨w.heap.size,0,none⟩ (.int .i64 x.c)).setCell ⟨w.heap.size,1,none⟩ (.int .i64 x.s)).setCell ⟨w.heap.size,2,none⟩ (.slice A3 x.dn c3')) (by go_simp) ?_ (fun hHeld=>?_)
 ·refine ⟨((M3.drew.far (p:=⟨w.heap.size,0,none⟩) (by show w.heap.size+1≠w.heap.size;omega) _).far (p:=⟨w.heap.size,1,none⟩) (by show w.heap.size+1≠w.heap.size;omega) _).far (p:=⟨w.heap.size,2,none⟩) (by show w.heap.size+1≠w.heap.size;omega) _,?_⟩
  have hsp:sp≠w.heap.size:=by have:=H.out.blk.lt;omega
  rw [World.cell?_setCell_other _ _ _ _ (fun e=>hsp (congrArg Addr.block e).symm),World.cell?_setCell_other _ _ _ _ (fun e=>hsp (congrArg Addr.block e).symm),World.cell?_setCell_other _ _ _ _ (fun e=>hsp (congrArg Addr.block e).symm)]
  exact S3
 refine rgN ?_
 refine rgA (F:=fun _=>True) (fun _ _=>trivial) ?_
 refine wpAnyH_done (by kernel_rfl) ?_ _
 go_wp2_with fail
 (try simp only [Exit.inBlock,Exit.then])
 refine zp6 (x:=⟨x.c,x.s,A3,x.dn,c3',x.dl⟩) (vr:=.bool d) (g:=w.heap.size) (t:=30) rfl rfl rfl ?_ rfl ⟨A3,c3',rfl,?_,hc3,hc3',?_⟩
 ·exact zvN M4'.out _ _ _
 ·exact zyj O3.out _ _ _ (by simp only [World.size_alloc];omega)
 ·exact zq2 HB3.out _ _ _
section
variable {w:World} {B sp:Nat} {x:NoP} {v:Value}
theorem zhj (h:Blk w sp 62 (stC true x v)) (r:Value) (m:Bool):Calls Tryz.prog 12 #[.pointer (some ⟨sp,0,none⟩),r,.bool m] w fun e w'=>e = .returned (.tuple #[])∧Blk w' sp 62 (stC true x (.slice none 0 0))∧w.grownBy w' (some sp):=by
 have H:=hide h
 have c0:w.cell? ⟨sp,0,none⟩=some (.bool true):=by rw [h.cell];rfl
 have c4:w.cell? ⟨sp,4,none⟩=some v:=by rw [h.cell];rfl
 have f4:=h.frozen 4
 clear h
 go_enter Tryz.func12,Tryz.ntmps12
 go_wp2
 go_end0
 exact ⟨rfl,by have:=H.out.set_ 4 (.slice none 0 0);simpa [stC] using this,zao (zac _ _) (.inl rfl) _⟩
theorem zhi (h:Blk w sp 62 (stC false x v)) (A:Option Addr) (n c:Nat):Calls Tryz.prog 12 #[.pointer (some ⟨sp,0,none⟩),.slice A n c,.bool false] w fun e w'=>e = .returned (.tuple #[])∧Blk w' sp 62 (stC false x (.slice A n c))∧w.grownBy w' (some sp):=by
 have H:=hide h
 have c0:w.cell? ⟨sp,0,none⟩=some (.bool false):=by rw [h.cell];rfl
 have c4:w.cell? ⟨sp,4,none⟩=some v:=by rw [h.cell];rfl
 have f4:=h.frozen 4
 clear h
 go_enter Tryz.func12,Tryz.ntmps12
 go_wp2
 go_end0
 exact ⟨rfl,by have:=H.out.set_ 4 (.slice A n c);simpa [stC] using this,zao (zac _ _) (.inl rfl) _⟩
theorem zgc (h:Blk w sp 62 (stC false x v)) {lo hi n c:Nat} {A:Option Addr} {S:List UInt8} (ha:At w lo hi A n S) (hh:hi≤w.heap.size) (hn:n≤140737488355328) :
  Calls Tryz.prog 12 #[.pointer (some ⟨sp,0,none⟩),.slice A n c,.bool true] w fun e w'=>e = .returned (.tuple #[])∧∃ v',Blk w' sp 62 (stC false x v')∧w'.ownsRow w.heap.size 5 1 v' n (bvs S)∧w.grownBy w' (some sp):=by
 have H:=hide h
 have c0:w.cell? ⟨sp,0,none⟩=some (.bool false):=by rw [h.cell];rfl
 have HA:=hide ha
 clear h ha
 go_enter Tryz.func12,Tryz.ntmps12
 go_wp2_with fail
 refine (zee w lo hi A n c S HA.out hh hn).mono ?_
 rintro e w1 ⟨v1,rfl,o1,b1⟩
 obtain ⟨A1,c1,rfl,_,_⟩:=zag o1
 have H1:=hide (H.out.below b1 H.out.lt)
 have O1:=hide o1
 have B1:=hide b1
 have k4:w1.cell? ⟨sp,4,none⟩=some v:=by rw [H1.out.cell];rfl
 have f4:=H1.out.frozen 4
 clear o1 b1 c0
 go_wp2
 go_end0
 have hg:w1.grownBy (w1.setCell ⟨sp,4,none⟩ (.slice A1 n c1)) (some sp):=zao (zac _ _) (.inl rfl) _
 refine ⟨rfl,.slice A1 n c1,?_,zcE O1.out hg H.out.lt,zak (zaK B1.out _) hg⟩
 have:=H1.out.set_ 4 (.slice A1 n c1)
 simpa [stC] using this
end
end
section
open Go.RowKit
theorem zmv {w:World} {lo hi n c l k:Nat} {A:Option Addr} {T:List UInt8} (h:At w lo hi A n T) (hl:l≤k) (hk:k≤n) (hn:n≤c):∃ A',sliced A l k c 1 = .slice A' (k-l) (c-l)∧At w lo hi A' (k-l) ((T.take k).drop l):=by
 refine ⟨_,rfl,?_,fun h0=>?_⟩
 ·rw [List.length_drop,List.length_take,h.1];omega
 ·obtain ⟨b,o,rfl,h1,h2,hc⟩:=h.2 (by omega)
  refine ⟨b,o+l,by rw [if_neg (by omega)];simp [zcy],h1,h2,fun j u hu=>?_⟩
  rw [List.getElem?_drop,List.getElem?_take] at hu
  split at hu
  ·have:=hc (l+j) u hu
   rwa [← Nat.add_assoc] at this
  ·cases hu
theorem zpK {w:World} {lo hi n c l:Nat} {A:Option Addr} {T:List UInt8} (h:At w lo hi A n T) (hk:l≤n) (hn:n≤c):∃ A',sliced A l n c 1 = .slice A' (n-l) (c-l)∧At w lo hi A' (n-l) (T.drop l):=by
 obtain ⟨A',e,h'⟩:=zmv h hk (Nat.le_refl _) hn
 rw [show T.take n=T by rw [← h.1];exact List.take_length] at h'
 exact ⟨A',e,h'⟩
section
variable {ops:Array Oper} {rest:List Oper} {o:Oper} {a:Act} {w:World} {Q:Exit→Act→World→Prop}
theorem zps (hw:Region.wanted o (yielded ops a.tmps)=true) (x y z:Operand) (ho:o.op = .slice 22 x (some y) (some z) none)
  {lo hi n c l k:Nat} {A:Option Addr} {T:List UInt8} {p q:Int} (hx:a.eval x = .slice A n c) (hy:a.eval y = .int .i64 p) (hz:a.eval z = .int .i64 q) (hp:p=l) (hq:q=k) (h:At w lo hi A n T) (hl:l≤k) (hk:k≤n) (hn:n≤c)
  (hK:∀ A',At w lo hi A' (k-l) ((T.take k).drop l)→wpList Tryz.prog ops Q rest (a.put o.dst (.slice A' (k-l) (c-l))) w):wpList Tryz.prog ops Q (o::rest) a w:=by
 subst hp hq
 obtain ⟨A',e,h'⟩:=zmv h hl hk hn
 have he:Tryz.prog.elem 22=5:=by unfold Program.elem;rw [Tryz.underlying22]
 have ht':Tryz.prog.underlying 22=some (.slice (Tryz.prog.elem 22)):=by rw [he];exact Tryz.underlying22
 have hr:(Instr.sliceAt 22 (.slice A n c) (some (.int .i64 (l:Int))) (some (.int .i64 (k:Int))) none).run Tryz.prog w = .ok (.slice A' (k-l) (c-l)) w:=by
  rw [run_sliceAt_slice w 22 _ _ _ _ ht',run_slice_lh w 22 A n c ht' .i64 .i64 (l:Int) (k:Int) (by omega) (by omega) (by omega),he,Tryz.sizeOf5,Result.andThen_ok,Int.toNat_natCast,Int.toNat_natCast,e]
 refine zad hw ?_ (hK A' h')
 unfold execOp
 simp only [ho,hx,hy,hz,Option.map_some,Option.map_none,Sem.run_bind,hr,Result.andThen_ok,Sem.run_pure]
theorem zna (hw:Region.wanted o (yielded ops a.tmps)=true) (x y:Operand) (ho:o.op = .slice 22 x (some y) none none)
  {lo hi n c l:Nat} {A:Option Addr} {T:List UInt8} {p:Int} (hx:a.eval x = .slice A n c) (hy:a.eval y = .int .i64 p) (hp:p=l) (h:At w lo hi A n T) (hk:l≤n) (hn:n≤c)
  (hK:∀ A',At w lo hi A' (n-l) (T.drop l)→wpList Tryz.prog ops Q rest (a.put o.dst (.slice A' (n-l) (c-l))) w):wpList Tryz.prog ops Q (o::rest) a w:=by
 subst hp
 obtain ⟨A',e,h'⟩:=zpK h hk hn
 have he:Tryz.prog.elem 22=5:=by unfold Program.elem;rw [Tryz.underlying22]
 have ht':Tryz.prog.underlying 22=some (.slice (Tryz.prog.elem 22)):=by rw [he];exact Tryz.underlying22
 have hr:(Instr.sliceAt 22 (.slice A n c) (some (.int .i64 (l:Int))) none none).run Tryz.prog w = .ok (.slice A' (n-l) (c-l)) w:=by
  rw [run_sliceAt_slice w 22 _ _ _ _ ht',run_slice_l w 22 A n c ht' .i64 (l:Int) (by omega) (by omega),he,Tryz.sizeOf5,Result.andThen_ok,Int.toNat_natCast,e]
 refine zad hw ?_ (hK A' h')
 unfold execOp
 simp only [ho,hx,hy,Option.map_some,Option.map_none,Sem.run_bind,hr,Result.andThen_ok,Sem.run_pure]
end
abbrev Hd:=Array Value × Int
def hdL (p:Hd):List Value:=p.1.toList++[.int .i64 p.2]
def HdOk (p:Hd):Prop:=p.1.size=53∧p.1.all (·.oneCell')=true
theorem zn5 {p:Hd} (h:HdOk p):(hdL p).length=54:=by unfold hdL;rw [List.length_append,Array.length_toList,h.1];rfl
theorem zxX {p:Hd} (h:HdOk p):∀ u∈hdL p,u.oneCell'=true:=fun u hu=>by
 unfold hdL at hu
 rcases List.mem_append.1 hu with h1 | h1
 ·exact Array.all_eq_true_iff_forall_mem.1 h.2 u (by simpa using h1)
 ·rw [List.mem_singleton] at h1
  subst h1
  rfl
theorem zqK {T:List UInt8} (hl:19≤T.length) (hc:hdC T=0):∃ N:Nat,hdN T=N∧N≤4077:=by
 have hS:hdS T=zmD T:=if_neg (by omega)
 have h0:zmD T=0:=by
  unfold hdC at hc
  rw [hS] at hc
  split at hc
  ·assumption
  ·cases hc
 have hN:hdN T=(lenH T:Nat)-19:=if_neg (by rw [h0];omega)
 unfold zmD zeJ at h0
 split at h0
 ·cases h0
 ·split at h0
  ·cases h0
  ·rename_i h1
   exact ⟨lenH T-19,by rw [hN];omega,by omega⟩
end
section
open Go.RowKit
def zm7 (T:List UInt8) (ts:List Hd) (d:Bool) (x:NoP) (R:List UInt8):Prop :=
 (d=false→x=no0 0 0∧R.length<4096)∧(d=true→R=[])∧(T.length<19→ts=[]∧d=false∧R=T) ∧
 (19≤T.length→0<hdC T→ts=[]∧d=true∧x.c=hdC T∧x.s=hdS T)∧(T.length=19→hdC T=0→hdK T=4→hdN T=0→ts=[(zMe 4,0)]∧d=false∧R=[])
def zjm (T:List UInt8) (ts:List Hd) (S:List UInt8):Prop:=(ts=[]∧S=T)∨(ts≠[]∧19≤T.length∧hdC T=0∧(T.length=19→hdK T=4→hdN T=0→ts=[(zMe 4,0)]∧S=[]))
section
variable {T S:List UInt8} {ts:List Hd} {x:NoP} {N:Nat}
theorem zo8 (h:zjm T ts S) (hs:S.length<19):zm7 T ts false (no0 0 0) S:=by
 refine ⟨fun _=>⟨rfl,by omega⟩,fun e=>(by cases e),fun h1=>?_,fun h1 h2=>?_,fun h1 h2 h3 h4=>?_⟩
 ·rcases h with ⟨h3,h4⟩ | ⟨_,h4,_⟩
  ·exact ⟨h3,rfl,h4⟩
  ·omega
 ·rcases h with ⟨_,rfl⟩ | ⟨_,_,h4,_⟩
  ·omega
  ·omega
 ·rcases h with ⟨_,rfl⟩ | ⟨_,_,_,h5⟩
  ·omega
  ·obtain ⟨h6,h7⟩:=h5 h1 h3 h4
   exact ⟨h6,rfl,h7⟩
theorem zxF (h:zjm T ts S) (h0:19≤S.length) (hc:hdC S=0) (hN:hdN S=N) (hN2:N≤4077) (hs:S.length<19+N):zm7 T ts false (no0 0 0) S:=by
 refine ⟨fun _=>⟨rfl,by omega⟩,fun e=>(by cases e),fun h1=>?_,fun h1 h2=>?_,fun h1 h2 h3 h4=>?_⟩
 ·rcases h with ⟨_,rfl⟩ | ⟨_,h4,_⟩
  ·omega
  ·omega
 ·rcases h with ⟨_,rfl⟩ | ⟨_,_,h4,_⟩
  ·omega
  ·omega
 ·rcases h with ⟨_,rfl⟩ | ⟨_,_,_,h5⟩
  ·omega
  ·have:=(h5 h1 h3 h4).2
   rw [this] at h0
   simp at h0
theorem on_bad (h:zjm T ts S) (h0:19≤S.length) (hc:0<hdC S) (h1:x.c=hdC S) (h2:x.s=hdS S):zm7 T ts true x []:=by
 refine ⟨fun e=>(by cases e),fun _=>rfl,fun h3=>?_,fun h3 h4=>?_,fun h3 h4 h5 h6=>?_⟩
 ·rcases h with ⟨_,rfl⟩ | ⟨_,h4,_⟩
  ·omega
  ·omega
 ·rcases h with ⟨h5,rfl⟩ | ⟨_,_,h5,_⟩
  ·exact ⟨h5,rfl,h1,h2⟩
  ·omega
 ·rcases h with ⟨_,rfl⟩ | ⟨_,_,_,h7⟩
  ·omega
  ·have:=(h7 h3 h5 h6).2
   rw [this] at h0
   simp at h0
theorem zu4 (h:zjm T ts S) (h0:19≤S.length) (hc:hdC S=0) (hk:hdK S≠4):zm7 T ts true x []:=by
 refine ⟨fun e=>(by cases e),fun _=>rfl,fun h3=>?_,fun h3 h4=>?_,fun h3 h4 h5 h6=>?_⟩
 ·rcases h with ⟨_,rfl⟩ | ⟨_,h4,_⟩
  ·omega
  ·omega
 ·rcases h with ⟨h5,rfl⟩ | ⟨_,_,h5,_⟩
  ·omega
  ·omega
 ·rcases h with ⟨_,rfl⟩ | ⟨_,_,_,h7⟩
  ·exact absurd h5 hk
  ·have:=(h7 h3 h5 h6).2
   rw [this] at h0
   simp at h0
theorem zxG {C:Array Value} {o:Int} (h:zjm T ts S) (h0:19≤S.length) (hc:hdC S=0) (hN:hdN S=N) (hk:hdK S=4→C=zMe 4∧o=0):zjm T (ts++[(C,o)]) (S.drop (19+N)):=by
 refine .inr ⟨by simp,?_,?_,fun h3 h5 h6=>?_⟩
 ·rcases h with ⟨_,rfl⟩ | ⟨_,h4,_⟩ <;> assumption
 ·rcases h with ⟨_,rfl⟩ | ⟨_,_,h4,_⟩ <;> assumption
 ·rcases h with ⟨rfl,rfl⟩ | ⟨_,_,_,h7⟩
  ·obtain ⟨rfl,rfl⟩:=hk h5
   exact ⟨rfl,List.drop_eq_nil_of_le (by omega)⟩
  ·have:=(h7 h3 h5 h6).2
   rw [this] at h0
   simp at h0
end
theorem zsw {w:World} {B n c:Nat} {A:Option Addr} {T:List UInt8} (h:w.ownsRow B 5 1 (.slice A n c) n (bvs T)) (hn:0<n):∃ g,A=some ⟨g,0,none⟩∧B≤g∧g<w.heap.size∧At w g (g+1) A n T:=by
 obtain ⟨g,cur,rfl,h1,h2⟩:∃ g cur,A=some ⟨g,0,none⟩∧B≤g∧w.heap[g]?=some (.cells cur 5 (0,0)):=by
  rcases h.2 with ⟨_,h0⟩ | ⟨g,cap,cur,hv,hb,hg,_⟩
  ·omega
  ·injection hv with hv
   exact ⟨g,cur,hv,hb,hg⟩
 refine ⟨g,rfl,h1,Blk.lt (t:=5) (cs:=cur) h2,?_⟩
 have ha:=At.own h
 refine ⟨ha.1,fun h0=>?_⟩
 obtain ⟨b,o,e,_,_,hc⟩:=ha.2 h0
 injection e with e
 injection e with e1 e2
 subst e1
 subst e2
 exact ⟨g,0,rfl,Nat.le_refl _,Nat.lt_succ_self _,hc⟩
theorem zxW:(Tryz.prog.info? 58).map (fun i=>(i.zero.map (·.cells.size),i.size,decide (i.bytes≤4096)))=some (some 54,54,true):=by kernel_rfl
theorem zvq:∃ (i:TypeInfo) (z:Value),Tryz.prog.info? 58=some i∧i.zero=some z∧i.size=54∧i.bytes≤4096∧z.cells.size=54:=by
 have h:=zxW
 cases hq:Tryz.prog.info? 58 with
 | none=>rw [hq] at h;cases h
 | some i =>
  rw [hq] at h
  simp only [Option.map_some,Option.some.injEq,Prod.mk.injEq] at h
  cases hz:i.zero with
  | none=>rw [hz] at h;simp at h
  | some z =>
   rw [hz] at h
   simp only [Option.map_some,Option.some.injEq] at h
   exact ⟨i,z,rfl,hz,h.2.1,of_decide_eq_true h.2.2,h.1⟩
theorem zvv {C:Array Value} {u:Value} {z:Array Value} (hz:z.size=54) (hC:C.size=53) (hu:u.cells=#[u]):Instr.fill (#[(0,53),(53,1)][·]?) z [(0,.agg C),(1,u)]=some (C.toList++[u]).toArray:=by
 have e1:(C.zipIdx).foldl (fun (a:Array Value) (x:Value × Nat)=>a.setIfInBounds (0+x.2) x.1) z=(C.toList++z.toList.drop 53).toArray:=by
  have h:=zh2 C.toList (z.toList.take 53) [] (z.toList.drop 53) 0 0 rfl (by simp [hz,hC])
  simp only [List.nil_append,List.take_append_drop] at h
  have e:((C.zipIdx).foldl (fun (a:Array Value) (x:Value × Nat)=>a.setIfInBounds (0+x.2) x.1) z)=(C.toList.zipIdx 0).foldl (fun (a:Array Value) (x:Value × Nat)=>a.setIfInBounds (0+x.2) x.1) z.toList.toArray:=by
   rw [← Array.foldl_toList];simp
  exact e.trans h
 have e2:(#[u].zipIdx).foldl (fun (a:Array Value) (x:Value × Nat)=>a.setIfInBounds (53+x.2) x.1) (C.toList++z.toList.drop 53).toArray=(C.toList++[u]).toArray:=by
  have h:=zh2 [u] (z.toList.drop 53) C.toList [] 0 53 (by simp [hC]) (by simp [hz])
  simp only [List.append_nil] at h
  have e:((#[u].zipIdx).foldl (fun (a:Array Value) (x:Value × Nat)=>a.setIfInBounds (53+x.2) x.1) (C.toList++z.toList.drop 53).toArray)=([u].zipIdx 0).foldl (fun (a:Array Value) (x:Value × Nat)=>a.setIfInBounds (53+x.2) x.1) (C.toList++z.toList.drop 53).toArray:=by
   rw [← Array.foldl_toList];simp
  exact e.trans h
 unfold Instr.fill
 simp only [show (Value.agg C).cells=C from rfl]
 show (if (decide (C.size≠53)||decide (0+C.size > z.size))=true then none else Instr.fill (fun x=>#[(0,53),(53,1)][x]?) (Array.foldl (fun cs x=>cs.setIfInBounds (0+x.2) x.1) z C.zipIdx) [(1,u)])=_
 rw [if_neg (by simp [hC,hz]),e1]
 unfold Instr.fill
 simp only [hu]
 show (if (decide (#[u].size≠1)||decide (53+#[u].size > (C.toList++z.toList.drop 53).toArray.size))=true then none else Instr.fill (fun x=>#[(0,53),(53,1)][x]?) (Array.foldl (fun cs x=>cs.setIfInBounds (53+x.2) x.1) (C.toList++z.toList.drop 53).toArray #[u].zipIdx) [])=_
 rw [if_neg (by simp [hC,hz]),e2]
 rfl
theorem zvM (C:Array Value) (q:Int) (h:C.size=53):Tryz.prog.built 58 [(0,.agg C),(1,.int .i64 q)]=some (hdL (C,q)).toArray:=by
 have hb:Tryz.prog.built 58 [(0,.agg C),(1,.int .i64 q)]=Instr.fill (#[(0,53),(53,1)][·]?) ((((Tryz.prog.info? 58).bind (·.zero)).map (·.cells)).getD #[]) [(0,.agg C),(1,.int .i64 q)]:=by kernel_rfl
 rw [hb]
 exact zvv (by kernel_rfl) h rfl
theorem zlj {o:Oper} {a:Act} (w:World) (x y:Operand) (ho:o.op = .build 58 #[(0,x),(1,y)]) {C:Array Value} {q:Int} (hx:a.eval x = .agg C) (hy:a.eval y = .int .i64 q) (h:C.size=53) :
  (execOp a.eval o).run Tryz.prog w = .ok (.value (.agg (hdL (C,q)).toArray)) w:=by
 unfold execOp
 simp only [ho,List.map_toArray,List.map_cons,List.map_nil,hx,hy,Sem.run_bind,run_build w _ _ _ (zvM C q h),Result.andThen_ok,Sem.run_pure]
theorem zld {o:Oper} {a:Act} (w:World) (x:Operand) (ho:o.op = .buildSlice 27 1 #[(0,x)]) {p:Hd} (ex:a.eval x = .agg (hdL p).toArray) (h:HdOk p) :
  (execOp a.eval o).run Tryz.prog w = .ok (.value (.slice (some ⟨w.heap.size,0,none⟩) 1 1)) (w.alloc (.cells (hdL p).toArray 58)):=by
 obtain ⟨z,hz,hzs⟩:∃ z:Value,(∀ w,(zeroValue 58).run Tryz.prog w = .ok z w)∧z.cells.size=54:=⟨_,fun w=>Tryz.zeroValue58 w,rfl⟩
 have hr:=zbx (P:=Tryz.prog) w 27 58 (hdL p).toArray z Tryz.underlying27 (fun w=>Tryz.sizeOf58 w) hz hzs (by simp [zn5 h]) (by decide) (by decide)
 unfold execOp
 simp only [ho,List.map_toArray,List.map_cons,List.map_nil,ex,Sem.run_bind,hr,Result.andThen_ok,Sem.run_pure]
theorem zm9 {ops:Array Oper} {rest:List Oper} {o:Oper} {a:Act} {w:World} {Q:Exit→Act→World→Prop} (hw:Region.wanted o (yielded ops a.tmps)=true) (x y:Operand)
  (ho:o.op = .call { callee:=.builtin .append,args:=#[x,y],argTypes:=#[27,27] }) (base:Nat) {v:Value} {n:Nat} {xs:List Hd} (hx:a.eval x=v) (hown:w.ownsRow base 58 54 v n (zaX hdL xs))
  {g:Nat} {p:Hd} (hy:a.eval y = .slice (some ⟨g,0,none⟩) 1 1) (hb:Blk w g 58 (hdL p).toArray) (hp:HdOk p) (hn:n≤100000) (hbase:base≤w.heap.size)
  (hK:∀ v' w',w'.ownsRow base 58 54 v' (n+1) (zaX hdL (xs++[p]))→w.grownBy w' v.ownBlock→(v'.ownBlock=v.ownBlock∨v'.ownBlock=some w.heap.size)→wpList Tryz.prog ops Q rest (a.put o.dst v') w'):wpList Tryz.prog ops Q (o::rest) a w:=by
 obtain ⟨i,z,hi,hz,h1,h2,h3⟩:=zvq
 obtain ⟨v',w',hr,q1,q2,q3⟩:=zlk w x y base 27 58 i z i.bytes ho Tryz.underlying27 hi hz h1 rfl h3 (by decide) v n xs hx hown g _ (some ⟨g,0,none⟩) 1 1 [p] hy (AtG.one (enc:=hdL) hb)
  (fun u hu=>by rw [List.mem_singleton] at hu;subst hu;exact zn5 hp) (fun u hu=>by rw [List.mem_singleton] at hu;subst hu;exact zxX hp) (by
   have:=Nat.mul_le_mul (show n+1≤100001 by omega) h2
   omega) (by unfold maxLen;omega) hbase
 exact zbz hw hr (hK v' w' q1 q2 q3)
end
end Go.Proofs.YtjindligkhdddaaGreatDoor
