/-
  Which families are known, and the numbers that stand for their sizes: package family, in whatever memory. No condition.
  Writing into the parts of a route that lies in a block; one cell; copy into its distinguisher. No condition.
  What withBits, writersOf and its closures of package mroute do, in whatever memory. No condition.
-/
import Derived.Test.YtookpplebikfnaaGreatDoorKHAP
set_option linter.unusedVariables false
set_option linter.unusedSimpArgs false
namespace Go.Proofs.YtookpplebikfnaaGreatDoor
section
open Go.RowKit
theorem zig (b:List UInt8):zab b (b.length:Nat)=b:=by
 unfold zab zbs
 rw [if_pos (by simp)]
 simp
theorem zlU (x:UInt8) (b:List UInt8):zas (x::b) 1=x.toNat∧zai (x::b) 1=b∧zeT (x::b) 1=true:=by
 have hb:zbs (x::b) 1=true:=by unfold zbs;simp;omega
 refine ⟨?_,?_,?_⟩
 ·unfold zas zab;rw [if_pos (by decide),if_pos hb];simp [big]
 ·unfold zai zaf;rw [if_pos (by decide),if_pos hb];simp
 ·unfold zeT;rw [hb];rfl
theorem ziP (x y:UInt8) (b:List UInt8):zas (x::y::b) 2=x.toNat*256+y.toNat∧zai (x::y::b) 2=b∧zeT (x::y::b) 2=true:=by
 have hb:zbs (x::y::b) 2=true:=by unfold zbs;simp;omega
 refine ⟨?_,?_,?_⟩
 ·unfold zas zab;rw [if_pos (by decide),if_pos hb];simp [big]
 ·unfold zai zaf;rw [if_pos (by decide),if_pos hb];simp
 ·unfold zeT;rw [hb];rfl
theorem zif (a b:List UInt8):zab (a++b) (a.length:Nat)=a∧zaf (a++b) (a.length:Nat)=b:=⟨(zhW a b).1,(zhW a b).2.1⟩
def ze8 (s f:Int):Bool:=decide (s=4∨s=16)&&decide (f=5∨f=128)
def numN (s:Int):Int:=if s=4 then 1 else if s=16 then 2 else 0
def szN (n:Int):Int:=if n=1 then 4 else if n=2 then 16 else 0
def famC (f:Int × Int):Array Value:=#[.int .i64 f.1,.int .i64 f.2]
theorem ziW (w:World) (s:Int):Calls Tryz.prog 75 #[.int .i64 s] w fun e w'=>e = .returned (.int .u8 (numN s))∧w=w':=by
 unfold numN
 by_cases h1:s=4
 ·rw [if_pos h1]
  go_enter Tryz.func75,Tryz.ntmps75
  go_wp2
  go_ret
  exact ⟨rfl,rfl⟩
 ·rw [if_neg h1]
  by_cases h2:s=16
  all_goals
   first | rw [if_pos h2] | rw [if_neg h2]
   go_enter Tryz.func75,Tryz.ntmps75
   go_wp2
   go_ret
   exact ⟨rfl,rfl⟩
theorem zr7 (w:World) (n:Int):Calls Tryz.prog 142 #[.int .i64 n] w fun e w'=>e = .returned (.int .i64 (szN n))∧w=w':=by
 unfold szN
 by_cases h1:n=1
 ·rw [if_pos h1]
  go_enter Tryz.func142,Tryz.ntmps142
  go_wp2
  go_ret
  exact ⟨rfl,rfl⟩
 ·rw [if_neg h1]
  by_cases h2:n=2
  all_goals
   first | rw [if_pos h2] | rw [if_neg h2]
   go_enter Tryz.func142,Tryz.ntmps142
   go_wp2
   go_ret
   exact ⟨rfl,rfl⟩
theorem zpR (w:World) (f:Int × Int):Calls Tryz.prog 132 #[.agg (famC f)] w fun e w'=>e = .returned (.bool (ze8 f.1 f.2))∧Below w.heap.size w w':=by
 have HB:=hide (Blk.new w 185 (famC f))
 obtain ⟨s,f⟩:=f
 have c0:(w.alloc (.cells (famC (s,f)) 185)).cell? ⟨w.heap.size,0,none⟩=some (.int .i64 s):=HB.out.cell 0
 have c1:(w.alloc (.cells (famC (s,f)) 185)).cell? ⟨w.heap.size,1,none⟩=some (.int .i64 f):=HB.out.cell 1
 have W0:=hide ((Below.refl w.heap.size w).alloc (Nat.le_refl _) (.cells (famC (s,f)) 185))
 clear HB
 show Calls _ _ _ _ fun e w'=>e = .returned (.bool (decide (s=4∨s=16)&&decide (f=5∨f=128)))∧_
 have HN:=hide (ziW (w.alloc (.cells (famC (s,f)) 185)) s)
 have hk:(numN s=0∧decide (s=4∨s=16)=false)∨(numN s=1∧decide (s=4∨s=16)=true)∨(numN s=2∧decide (s=4∨s=16)=true):=by
  unfold numN
  by_cases h1:s=4
  ·simp [h1]
  ·by_cases h2:s=16 <;> simp [h1,h2]
 by_cases h5:f=5∨f=128
 ·rw [decide_eq_true h5]
  rcases hk with ⟨hn,hk⟩ | ⟨hn,hk⟩ | ⟨hn,hk⟩ <;> rcases h5 with rfl | rfl
  all_goals
   rw [hk]
   rw [hn] at HN
   clear hn hk
   go_enter Tryz.func132,Tryz.ntmps132
   go_wp2_with fail
   refine HN.out.mono ?_
   rintro e w1 ⟨rfl,rfl⟩
   go_wp2
   go_ret
   exact ⟨rfl,W0.out⟩
 ·rw [decide_eq_false h5]
  have g5:(f==5)=false:=beq_eq_false_iff_ne.2 (fun e=>h5 (.inl e))
  have g6:(f==128)=false:=beq_eq_false_iff_ne.2 (fun e=>h5 (.inr e))
  rcases hk with ⟨hn,hk⟩ | ⟨hn,hk⟩ | ⟨hn,hk⟩
  all_goals
   rw [hk]
   rw [hn] at HN
   clear hn hk h5
   go_enter Tryz.func132,Tryz.ntmps132
   go_wp2_with fail
   refine HN.out.mono ?_
   rintro e w1 ⟨rfl,rfl⟩
   go_wp2
   go_ret
   exact ⟨rfl,W0.out⟩
end
section
open Go.RowKit
theorem zg8 {w:World} {g o:Nat} {t:TypeId} {m m':Mr} {p q r vs:List Value} (h:Blk w g t (mroC m)) (h1:mroL m=p++(q++r)) (h2:mroL m'=p++(vs++r)) (hp:p.length=o) (hq:q.length=vs.length) :
  Blk (w.setCells g o vs) g t (mroC m'):=by
 subst hp
 unfold mroC at h ⊢
 rw [h1] at h
 rw [h2]
 exact zcT vs q p w hq h
theorem zrP {w:World} {g:Nat} {t:TypeId} {m:Mr} (h:Blk w g t (mroC m)) (hm:m.W) (x:Int):Blk (w.setCell ⟨g,9,none⟩ (.int .i64 x)) g t (mroC { m with a:=x }) :=
 zg8 (p:=[.int .i64 m.k]++bvs m.rd) (q:=[.int .i64 m.a]) (vs:=[.int .i64 x]) h (by simp only [mroL,List.append_assoc];rfl) (by simp only [mroL,List.append_assoc]) (by simp [bvs,hm.rd]) rfl
theorem zrL {w:World} {g:Nat} {t:TypeId} {m:Mr} (h:Blk w g t (mroC m)) (hm:m.W) (s:Int) {bs:List UInt8} (hl:bs.length=16):Blk (w.setCells g 10 (.int .i64 s::bvs bs)) g t (mroC { m with ss:=s,sb:=bs }) :=
 zg8 (p:=[.int .i64 m.k]++(bvs m.rd++[.int .i64 m.a])) (q:=.int .i64 m.ss::bvs m.sb) h (by simp only [mroL,List.append_assoc];rfl) (by simp only [mroL,List.append_assoc]) (by simp [bvs,hm.rd]) (by simp [bvs,hm.sb,hl])
theorem zrN {w:World} {g:Nat} {t:TypeId} {m:Mr} (h:Blk w g t (mroC m)) (hm:m.W) (s:Int) {bs:List UInt8} (hl:bs.length=16):Blk (w.setCells g 27 (.int .i64 s::bvs bs)) g t (mroC { m with gs:=s,gb:=bs }) :=
 zg8 (p:=[.int .i64 m.k]++(bvs m.rd++([.int .i64 m.a]++(.int .i64 m.ss::bvs m.sb)))) (q:=.int .i64 m.gs::bvs m.gb) h (by simp only [mroL,List.append_assoc];rfl) (by simp only [mroL,List.append_assoc]) (by simp [bvs,hm.rd,hm.sb]) (by simp [bvs,hm.gb,hl])
theorem zrO {w:World} {g:Nat} {t:TypeId} {m:Mr} (h:Blk w g t (mroC m)) (hm:m.W) (s:Int) {bs:List UInt8} (hl:bs.length=16):Blk (w.setCells g 44 (.int .i64 s::bvs bs)) g t (mroC { m with fs:=s,fb:=bs }) :=
 zg8 (p:=[.int .i64 m.k]++(bvs m.rd++([.int .i64 m.a]++((.int .i64 m.ss::bvs m.sb)++(.int .i64 m.gs::bvs m.gb))))) (q:=.int .i64 m.fs::bvs m.fb) h (by simp only [mroL,List.append_assoc];rfl) (by simp only [mroL,List.append_assoc]) (by simp [bvs,hm.rd,hm.sb,hm.gb]) (by simp [bvs,hm.fb,hl])
theorem zrM {w:World} {g:Nat} {t:TypeId} {m:Mr} (h:Blk w g t (mroC m)) (hm:m.W) (x:List UInt8):Blk (w.setCell ⟨g,61,none⟩ (.string ⟨x.toArray⟩)) g t (mroC { m with key:=x }) :=
 zg8 (p:=[.int .i64 m.k]++(bvs m.rd++([.int .i64 m.a]++((.int .i64 m.ss::bvs m.sb)++((.int .i64 m.gs::bvs m.gb)++(.int .i64 m.fs::bvs m.fb)))))) (q:=[.string ⟨m.key.toArray⟩]) (r:=[]) (vs:=[.string ⟨x.toArray⟩]) h (by simp only [mroL,List.append_assoc,List.append_nil]) (by simp only [mroL,List.append_assoc,List.append_nil]) (by simp [bvs,hm.rd,hm.sb,hm.gb,hm.fb]) rfl
theorem zgz {w:World} {g:Nat} {t:TypeId} {m:Mr} (h:Blk w g t (mroC m)) (hm:m.W) {o n:Nat} (ho:o+n≤62):w.there g o n:=fun j hj=>by
 refine ⟨?_,h.frozen _⟩
 rw [h.cell]
 have:=zbi hm
 simp [this]
 omega
theorem zmd {o:Oper} {a:Act} {w:World} (d s:Operand) (ho:o.op = .call { callee:=.builtin .copy,args:=#[d,s],argTypes:=#[36,36] })
  {g n c lo hi:Nat} {A:Option Addr} {bs:List UInt8} {t:TypeId} {m:Mr} (hd:a.eval d = .slice (some ⟨g,1,none⟩) 8 8) (hs:a.eval s = .slice A n c) (h:Blk w g t (mroC m)) (hm:m.W) (hz:m.rd=zdo) (hr:At w lo hi A n bs) :
  ∃ v w',(execOp a.eval o).run Tryz.prog w = .ok (.value v) w'∧Blk w' g t (mroC { m with rd:=pad8 bs })∧w.grownBy w' (some g):=by
 have hl:=hr.len
 have hsz:(Tryz.prog.info? 5).map (·.size)=some 1:=by kernel_rfl
 have fin:∀ {v:Value} {w':World},(Builtin.copy_ #[36,36] o.type #[.slice (some ⟨g,1,none⟩) 8 8,.slice A n c]).run Tryz.prog w = .ok v w'→(execOp a.eval o).run Tryz.prog w = .ok (.value v) w':=fun hrun=>by
  unfold execOp
  simp only [ho,resolve,invoke,builtin,Sem.run_bind,Sem.run_pure,Result.andThen_ok,List.map_toArray,List.map_cons,List.map_nil,hd,hs,hrun]
 rcases Nat.eq_zero_or_pos n with h0 | h0
 ·subst h0
  have:bs=[]:=List.eq_nil_of_length_eq_zero hl
  subst this
  refine ⟨_,_,fin (run_copy_none (P:=Tryz.prog) w _ _ _ 5 _ A 8 8 0 c Tryz.underlying36 hsz (by simp)),?_,zad w _⟩
  have e:pad8 []=m.rd:=by rw [hz];rfl
  rw [e]
  exact h
 ·obtain ⟨ad,rfl,hc⟩:=hr.cells h0
  have ht:((bvs bs).take 8).length=Nat.min n 8:=by rw [List.length_take,zba,hl,Nat.min_comm]
  have ht8:((bvs bs).take 8).length≤8:=by rw [List.length_take];omega
  have hth:=zgz h hm (o:=1) (n:=8) (by omega)
  refine ⟨_,_,fin (run_copy_cells (P:=Tryz.prog) w _ _ _ 5 g 1 8 8 ad n c ((bvs bs).take 8) Tryz.underlying36 hsz ht (fun j v hv=>hc j v (by
    rw [List.getElem?_take] at hv
    split at hv
    ·exact hv
    ·cases hv))
   (fun j hj=>(hth j (by omega)).1) (fun j hj=>(hth j (by omega)).2) (fun v hv=>zb4 bs v (List.mem_of_mem_take hv))),?_,zap _ _ _ _ (zad w _)⟩
  refine zg8 (p:=[.int .i64 m.k]) (q:=(bvs zdo).take (min n 8)) (r:=(bvs zdo).drop (min n 8)++([.int .i64 m.a]++((.int .i64 m.ss::bvs m.sb)++((.int .i64 m.gs::bvs m.gb)++((.int .i64 m.fs::bvs m.fb)++[.string ⟨m.key.toArray⟩]))))) h ?_ ?_ rfl ?_
  ·unfold mroL
   rw [hz,← List.append_assoc ((bvs zdo).take _),List.take_append_drop]
  ·unfold mroL
   simp only
   rw [← ziK bs,hl,List.append_assoc]
  ·rw [ht,List.length_take,zba]
   simp [zdo]
end
section
set_option maxRecDepth 20000
open Go.RowKit
theorem zwi (w:World) (x:UInt8) (V:Int) (hV:V=(x.toNat:Int)) :
  (w.alloc (.cells #[.int .u8 V] 5)).ownsRow w.heap.size 5 1 (.slice (some ⟨w.heap.size,0,none⟩) 1 1) 1 (bvs [x]):=by
 subst hV
 exact zcd (Blk.new w _ _) (Nat.le_refl _) (Nat.le_refl _) (by decide) rfl rfl
theorem zwh (w:World) (x y:UInt8) (V U:Int) (hV:V=(x.toNat:Int)) (hU:U=(y.toNat:Int)) :
  (w.alloc (.cells #[.int .u8 V,.int .u8 U] 5)).ownsRow w.heap.size 5 1 (.slice (some ⟨w.heap.size,0,none⟩) 2 2) 2 (bvs [x,y]):=by
 subst hV hU
 exact zcd (Blk.new w _ _) (Nat.le_refl _) (Nat.le_refl _) (by decide) rfl rfl
set_option maxHeartbeats 1000000 in
theorem zhl (w:World) (s:Int) (bs:List UInt8) (hl:bs.length=16) :
  Calls Tryz.prog 186 #[.agg (zaq s bs)] w fun e w'=>∃ v,e = .returned v∧w'.ownsRow w.heap.size 5 1 v (zhR s bs).length (bvs (zhR s bs))∧Below w.heap.size w w':=by
 have HB:=hide (Blk.new w 25 (zaq s bs))
 have HL:=hide hl
 have hn:=zc9 s hl
 have W0:=hide ((Below.refl w.heap.size w).alloc (Nat.le_refl _) (.cells (zaq s bs) 25))
 obtain ⟨i0,hi0,hz0,hz1,hz2⟩:=info_parts zbz
 have HV:Hid ((8*((zat s bs).length:Int))=((UInt8.ofNat (8*(zat s bs).length)).toNat:Int)):=hide (by rw [zbm (by omega)];omega)
 have HP:Hid (zhR s bs=[UInt8.ofNat (8*(zat s bs).length)]++zat s bs):=hide rfl
 have HPL:Hid ((zhR s bs).length=1+(zat s bs).length):=hide (by unfold zhR;simp;omega)
 clear hl
 go_enter Tryz.func186,Tryz.ntmps186
 go_wp2_with (with_reducible refine zaF rfl (.tmp 1) rfl w.heap.size rfl HB.out HL.out ?_)
 refine (zc8 _ s bs HL.out).mono ?_
 rintro e w1 ⟨v,rfl,ho,hb⟩
 obtain ⟨A,c,rfl,_,_⟩:=zac ho
 have HA:=hide (At.own ho)
 have W1:=hide (zaa W0.out hb (Nat.le_refl _))
 have hsz:w.heap.size≤w1.heap.size:=W1.out.size
 clear ho hb
 go_wp2_with (at_builtin;refine zag _ rfl _ _ 36 rfl w1.heap.size 5 i0 Tryz.underlying36 hi0 hz0 hz1 hz2 (.slice (some ⟨w1.heap.size,0,none⟩) 1 1) 1 [UInt8.ofNat (8*(zat s bs).length)] rfl (zwi w1 _ _ HV.out) _ w1.heap.size A _ c _ rfl (HA.out.alloc (Nat.le_refl _) _) (by omega) (by simp) ?_;intro v2 w2 ho2 hg2 ha2;have HO2:=hide ho2;have HG2:=hide hg2;clear ho2 hg2)
 go_ret
 refine ⟨_,rfl,?_,?_⟩
 ·rw [HPL.out,HP.out]
  exact zav HO2.out hsz
 ·exact zmo W1.out (Nat.le_refl _) _ HG2.out (Nat.le_refl _)
def zfo (w:World) (g:Nat) (m:Mr):Prop:=Blk w g 86 (mroC m)∧m.W
theorem zfo.over {w x:World} {g:Nat} {m:Mr} (h:zfo w g m) {B:Nat} (hb:Below B w x) (hB:g<B):zfo x g m:=⟨h.1.below hb hB,h.2⟩
theorem At.rdM {w:World} {g:Nat} {m:Mr} (h:zfo w g m):At w 0 (g+1) (some ⟨g,1,none⟩) 8 m.rd:=by
 have hr:=mro_rd h.2 h.1
 refine ⟨h.2.rd,fun _=>⟨g,1,rfl,Nat.zero_le _,by omega,fun j u hu=>?_⟩⟩
 exact hr j (bv u) (by unfold bvs;rw [List.getElem?_map,hu];rfl)
def WrOk (w:World) (m:Mr) (j:Nat) (e:Ending) (w':World):Prop :=
 ∃ A n c,e = .returned (.slice A n c)∧n≤c∧At w' 0 w'.heap.size A n (wrP m j)∧Below w.heap.size w w'
theorem zvs (w:World) (g:Nat) (m:Mr) (h:zfo w g m):Calls Tryz.prog 183 #[.pointer (some ⟨g,0,none⟩)] w (WrOk w m 0):=by
 have HA:=hide (At.rdM h)
 have hl:g+1≤w.heap.size:=h.1.lt
 clear h
 go_enter Tryz.func183,Tryz.ntmps183
 go_wp2
 go_ret
 exact ⟨_,_,_,rfl,Nat.le_refl _,HA.out.more (Nat.le_refl _) hl,Below.refl _ _⟩
theorem zvr (w:World) (g:Nat) (m:Mr) (h:zfo w g m):Calls Tryz.prog 184 #[.pointer (some ⟨g,0,none⟩)] w (WrOk w m 1):=by
 have c9:=(h.1.cell 9).trans (zvc h.2)
 clear h
 go_enter Tryz.func184,Tryz.ntmps184
 go_wp2_with fail
 refine (zwe w 0 0 none 0 0 [] (At.nil _ _ _ _) (Nat.zero_le _) (by omega) m.a 4).mono ?_
 rintro e w1 ⟨v,rfl,ho,hb⟩
 obtain ⟨A,c,rfl,hc,_⟩:=zac ho
 have HO:=hide ho
 have HB:=hide hb
 clear ho hb
 go_wp2
 go_ret
 exact ⟨_,_,_,rfl,hc,by rw [← (At.own HO.out).len];exact (At.own HO.out).more (Nat.zero_le _) (Nat.le_refl _),HB.out⟩
theorem zvq (w:World) (g:Nat) (m:Mr) (h:zfo w g m):Calls Tryz.prog 185 #[.pointer (some ⟨g,0,none⟩)] w (WrOk w m 2):=by
 have HS:=hide (zwp h.2 h.1)
 have HL:=hide h.2.sb
 clear h
 go_enter Tryz.func185,Tryz.ntmps185
 go_wp2_with (with_reducible refine zaW rfl (.tmp 2) rfl g 10 rfl HS.out HL.out ?_)
 refine (zhl w m.ss m.sb HL.out).mono ?_
 rintro e w1 ⟨v,rfl,ho,hb⟩
 obtain ⟨A,c,rfl,hc,_⟩:=zac ho
 have HO:=hide ho
 have HB:=hide hb
 clear ho hb
 go_wp2
 go_ret
 exact ⟨_,_,_,rfl,hc,(At.own HO.out).more (Nat.zero_le _) (Nat.le_refl _),HB.out⟩
theorem zvp (w:World) (g:Nat) (m:Mr) (h:zfo w g m):Calls Tryz.prog 187 #[.pointer (some ⟨g,0,none⟩)] w (WrOk w m 3):=by
 have HS:=hide (zwq h.2 h.1)
 have HL:=hide h.2.gb
 clear h
 go_enter Tryz.func187,Tryz.ntmps187
 go_wp2_with (with_reducible refine zaW rfl (.tmp 2) rfl g 27 rfl HS.out HL.out ?_)
 refine (zhl w m.gs m.gb HL.out).mono ?_
 rintro e w1 ⟨v,rfl,ho,hb⟩
 obtain ⟨A,c,rfl,hc,_⟩:=zac ho
 have HO:=hide ho
 have HB:=hide hb
 clear ho hb
 go_wp2
 go_ret
 exact ⟨_,_,_,rfl,hc,(At.own HO.out).more (Nat.zero_le _) (Nat.le_refl _),HB.out⟩
theorem zvn (w:World) (g:Nat) (m:Mr) (h:zfo w g m):Calls Tryz.prog 189 #[.pointer (some ⟨g,0,none⟩)] w (WrOk w m 5):=by
 have HS:=hide (mro_f h.2 h.1)
 have HL:=hide h.2.fb
 clear h
 go_enter Tryz.func189,Tryz.ntmps189
 go_wp2_with (with_reducible refine zaW rfl (.tmp 2) rfl g 44 rfl HS.out HL.out ?_)
 refine (zc8 w m.fs m.fb HL.out).mono ?_
 rintro e w1 ⟨v,rfl,ho,hb⟩
 obtain ⟨A,c,rfl,hc,_⟩:=zac ho
 have HO:=hide ho
 have HB:=hide hb
 clear ho hb
 go_wp2
 go_ret
 exact ⟨_,_,_,rfl,hc,(At.own HO.out).more (Nat.zero_le _) (Nat.le_refl _),HB.out⟩
theorem zko (w:World) (s:List UInt8):∃ c w',(convert 9 36 (.string ⟨s.toArray⟩)).run Tryz.prog w = .ok (.slice (some ⟨w.heap.size,0,none⟩) s.length c) w'∧s.length≤c ∧
  At w' w.heap.size w'.heap.size (some ⟨w.heap.size,0,none⟩) s.length s∧Below w.heap.size w w'∧w'.heap.size=w.heap.size+1:=by
 have hr:=run_bytes_of_string (P:=Tryz.prog) w 9 36 5 ⟨s.toArray⟩ Tryz.underlying9 Tryz.underlying36 Tryz.underlying5
 have hz:ByteArray.size ⟨s.toArray⟩=s.length:=by simp [ByteArray.size]
 rw [hz] at hr
 refine ⟨_,_,hr,grownCap_ge _ _ _ _,?_,((zal (Below.refl w.heap.size w))).alloc (by simp) _,by simp⟩
 refine ⟨rfl,fun _=>⟨_,0,rfl,Nat.le_refl _,by simp,fun j u hu=>?_⟩⟩
 have hh:(w.drew.alloc (.cells (bytesRow ⟨s.toArray⟩ (grownCap w s.length 0 5)) 5 ((bytesRow ⟨s.toArray⟩ (grownCap w s.length 0 5)).size,(bytesRow ⟨s.toArray⟩ (grownCap w s.length 0 5)).size+1))).heap[w.heap.size]?=some (.cells (bytesRow ⟨s.toArray⟩ (grownCap w s.length 0 5)) 5 ((bytesRow ⟨s.toArray⟩ (grownCap w s.length 0 5)).size,(bytesRow ⟨s.toArray⟩ (grownCap w s.length 0 5)).size+1)):=heap_alloc_new w.drew _
 rw [cell_of_row _ _ _ _ _ _ hh]
 have hj:j<s.length:=(List.getElem?_eq_some_iff.1 hu).1
 unfold bytesRow
 rw [Nat.zero_add,Array.getElem?_append_left (by simpa using hj)]
 simp [hu,bv]
theorem zeN {ops:Array Oper} {rest:List Oper} {o:Oper} {a:Act} {w:World} {Q:Exit→Act→World→Prop} (hgd:o.guard=none) (x:Operand) (ho:o.op = .convert 9 36 x)
  (s:List UInt8) (hx:a.eval x = .string ⟨s.toArray⟩)
  (hk:∀ c w',s.length≤c→At w' w.heap.size w'.heap.size (some ⟨w.heap.size,0,none⟩) s.length s→Below w.heap.size w w'→wpList Tryz.prog ops Q rest (a.put o.dst (.slice (some ⟨w.heap.size,0,none⟩) s.length c)) w'):wpList Tryz.prog ops Q (o::rest) a w:=by
 obtain ⟨c,w',hr,hc,ha,hb,_⟩:=zko w s
 refine wpList_plain hgd fun K hK=>?_
 unfold Oper.wp execOp
 simp only [ho,hx,Sem.run_bind,hr,Result.andThen_ok,Sem.run_pure]
 exact hK _ _ (hk c w' hc ha hb)
theorem zvo (w:World) (g:Nat) (m:Mr) (h:zfo w g m):Calls Tryz.prog 188 #[.pointer (some ⟨g,0,none⟩)] w (WrOk w m 4):=by
 have c61:=(h.1.cell 61).trans (zg9 h.2)
 clear h
 go_enter Tryz.func188,Tryz.ntmps188
 go_wp2_with (with_reducible refine zeN rfl (.tmp 3) rfl m.key rfl ?_;intro c w1 hc ha hb;have HA:=hide ha;have HB:=hide hb;clear ha hb)
 go_ret
 exact ⟨_,_,_,rfl,hc,HA.out.more (Nat.zero_le _) (Nat.le_refl _),HB.out⟩
def wfC (g:Nat):Array Value:=#[.func (.func 183) #[] #[.pointer (some ⟨g,0,none⟩)],.func (.func 184) #[] #[.pointer (some ⟨g,0,none⟩)],
 .func (.func 185) #[] #[.pointer (some ⟨g,0,none⟩)],.func (.func 187) #[] #[.pointer (some ⟨g,0,none⟩)],
 .func (.func 188) #[] #[.pointer (some ⟨g,0,none⟩)],.func (.func 189) #[] #[.pointer (some ⟨g,0,none⟩)]]
theorem zvZ {fn:Func} {R:Ending→World→Prop} {a:Act} {w:World} {p:Tmp} {g g':Nat} {t:TypeId} (hf:fn.results=#[.cell p 223])
  (hp:a.tmps.getD p undef = .pointer (some ⟨g,0,none⟩)) (h:Blk w g t (wfC g')) (hd:a.defers=[]) (hR:R (.returned (.agg (wfC g'))) w) :
  bodyPost Tryz.prog fn R .ret a w:=by
 refine bodyPost_ret (v:=.agg (wfC g')) ?_ hd hR
 have hp':a.tmps[p]?.getD undef = .pointer (some ⟨g,0,none⟩):=by simpa using hp
 have hl:=run_loadVar_row (P:=Tryz.prog) w g t 223 (wfC g') (0,0) _ h Tryz.underlying223 rfl (by rw [show (wfC g').size=6 from rfl];kernel_rfl)
 simp [results,hf,hp',asAddr,hl]
theorem wf_one (k:Nat):(wfC k).all (·.oneCell')=true:=by simp [wfC,Value.oneCell']
theorem zeW {ops:Array Oper} {rest:List Oper} {o:Oper} {a:Act} {w:World} {Q:Exit→Act→World→Prop} (hgd:o.guard=none) (x y:Operand) (ho:o.op = .store 223 x y)
  (g:Nat) (hx:a.eval x = .pointer (some ⟨g,0,none⟩)) {k:Nat} (hy:a.eval y = .agg (wfC k)) {t:TypeId} {old:Array Value} (h:Blk w g t old) (hold:old.size=6)
  (hk:∀ w',Blk w' g t (wfC k)→w.grownBy w' (some g)→wpList Tryz.prog ops Q rest (a.put o.dst undef) w'):wpList Tryz.prog ops Q (o::rest) a w :=
 wpList_store_row hgd 223 x y ho g (wfC k) hx hy t old h (by rw [show (wfC k).size=6 from rfl];kernel_rfl) (by rw [show (wfC k).size=6 from rfl,hold]) (wf_one k) (hk _ (h.setRow _) (zaK _ _ _))
theorem zkc (w:World) (m:Mr) (hm:m.W):Calls Tryz.prog 173 #[.agg (mroC m)] w fun e w'=>∃ g,e = .returned (.agg (wfC g))∧zfo w' g m∧Below w.heap.size w w':=by
 have HM:=hide hm
 have HB:=hide ((Blk.new w 86 (mroC m)).alloc (.cells #[.nilFunc,.nilFunc,.nilFunc,.nilFunc,.nilFunc,.nilFunc] 223))
 have HN:=hide (zdm w (.cells (mroC m) 86) 223 #[.nilFunc,.nilFunc,.nilFunc,.nilFunc,.nilFunc,.nilFunc])
 have W0:=hide (((Below.refl w.heap.size w).alloc (Nat.le_refl _) (.cells (mroC m) 86)).alloc (by simp) (.cells #[.nilFunc,.nilFunc,.nilFunc,.nilFunc,.nilFunc,.nilFunc] 223))
 clear hm
 go_enter Tryz.func173,Tryz.ntmps173
 go_wp2_with (refine zeW rfl (.tmp 2) (.tmp 9) rfl (w.heap.size+1) rfl (k:=w.heap.size) rfl HN.out rfl ?_;intro w2 hb2 hg2;have HB2:=hide hb2;have HG2:=hide hg2;clear hb2 hg2;refine Hid.out ?_)
 refine hide ?_
 go_wp2
 refine zvZ (p:=2) (g:=w.heap.size+1) (t:=223) (g':=w.heap.size) rfl rfl HB2.out rfl ⟨_,rfl,⟨HB.out.grown HG2.out (by simp),HM.out⟩,?_⟩
 exact W0.out.grown HG2.out (by simp;omega) (by simp)
theorem zqd {m:Mr} {j:Nat} (h:(za7 m.k).getD j false=false):wrK m (j+1)=wrK m j:=by rw [wrK,h];simp
theorem zqc {m:Mr} {j:Nat} (h:(za7 m.k).getD j false=true):wrK m (j+1)=wrK m j++wrP m j:=by rw [wrK,h];simp
theorem znC {m:Mr} (w:m.W) {j:Nat} (h:j<6):(wrP m j).length≤17+(if j=4 then m.key.length else 0):=by
 have h1:=zc9 m.ss w.sb
 have h2:=zc9 m.gs w.gb
 have h3:=zc9 m.fs w.fb
 have h4:=w.rd
 have h5:(zhv [] m.a 4).length≤4:=by
  unfold zhv
  split
  ·simp [zb5]
  ·simp
 rcases (show j=0∨j=1∨j=2∨j=3∨j=4∨j=5 by omega) with rfl | rfl | rfl | rfl | rfl | rfl <;> simp [wrP,zhR,List.length_cons] <;> omega
theorem zkd {m:Mr} (w:m.W):∀ j,j≤6→(wrK m j).length≤j*17+(if 4<j then m.key.length else 0)
 | 0,_=>by simp [wrK]
 | j+1,h=>by
  have ih:=zkd w j (by omega)
  have hp:=znC w (j:=j) (by omega)
  cases e:(za7 m.k).getD j false
  ·rw [zqd e]
   split at ih <;> split <;> omega
  ·rw [zqc e,List.length_append]
   split at ih <;> split at hp <;> split <;> omega
theorem zqe {m:Mr} (w:m.W) (j:Nat) (h:j≤6):(wrK m j).length≤102+m.key.length:=by
 have h1:=zkd w j h
 split at h1 <;> omega
theorem zvm {m:Mr} (w:m.W) {j:Nat} (h:j<6):(wrK m j).length+(wrP m j).length≤120+m.key.length:=by
 have h1:=zkd w j (by omega)
 have h2:=znC w h
 split at h1 <;> split at h2 <;> omega
theorem zuZ (n:Nat):IntKind.u8.wrap (n:Int)=((UInt8.ofNat n).toNat:Int):=by
 simp [IntKind.wrap,IntKind.bits,IntKind.signed]
theorem zhq (w:World) (k:Int) {j:Nat} (hj:j<6):(Instr.index 225 (.agg (nmC k)) (.int .i64 (j:Int))).run Tryz.prog w = .ok (.bool ((za7 k).getD j false)) w:=by
 rcases (show j=0∨j=1∨j=2∨j=3∨j=4∨j=5 by omega) with rfl | rfl | rfl | rfl | rfl | rfl <;> kernel_rfl
theorem zaQ {ops:Array Oper} {rest:List Oper} {o:Oper} {a:Act} {w:World} {Q:Exit→Act→World→Prop} (hw:Region.wanted o (yielded ops a.tmps)=true) (x y:Operand) (ho:o.op = .index 225 x y)
  (k:Int) (j:Nat) (hj:j<6) (hx:a.eval x = .agg (nmC k)) (hy:a.eval y = .int .i64 (j:Int)) (b:Bool) (hb:(za7 k).getD j false=b)
  (hk:wpList Tryz.prog ops Q rest (a.put o.dst (.bool b)) w):wpList Tryz.prog ops Q (o::rest) a w:=by
 subst hb
 unfold wpList
 rw [if_pos hw]
 refine .inl ?_
 unfold Oper.wp execOp
 simp only [ho,hx,hy,Sem.run_bind,zhq w k hj,Result.andThen_ok,Sem.run_pure]
 exact hk
theorem zeP {ops:Array Oper} {rest:List Oper} {o:Oper} {a:Act} {w:World} {Q:Exit→Act→World→Prop} {k:Int} {j:Nat} {b:Bool} (hb:(za7 k).getD j false=b) (hw:Region.wanted o (yielded ops a.tmps)=true) (x y:Operand) (ho:o.op = .index 225 x y)
  (hj:j<6) (hx:a.eval x = .agg (nmC k)) (hy:a.eval y = .int .i64 (j:Int)) (hk:wpList Tryz.prog ops Q rest (a.put o.dst (.bool b)) w):wpList Tryz.prog ops Q (o::rest) a w:=zaQ hw x y ho k j hj hx hy b hb hk
set_option maxHeartbeats 4000000 in
theorem zh7 (w:World) (m:Mr) (hm:m.W) (hkn:kwn m.k=true) (hkey:m.key.length≤140737488351232) (hn:zaM w) :
  Calls Tryz.prog 150 #[.agg (mroC m)] w fun e w'=>∃ v,e = .returned v∧w'.ownsRow w.heap.size 5 1 v (zcP m).length (bvs (zcP m))∧Below w.heap.size w w':=by
 obtain ⟨i0,hi0,hz0,hz1,hz2⟩:=info_parts zbz
 have HM:=hide hm
 have HK:=hide hkn
 have HKey:=hide hkey
 have HB:=hide (Blk.new w 86 (mroC m))
 have W0:=hide ((Below.refl w.heap.size w).alloc (Nat.le_refl _) (.cells (mroC m) 86))
 have HN:=hide (hn.below W0.out)
 clear hm hkn hkey hn
 go_enter Tryz.func150,Tryz.ntmps150
 go_wp2_with (with_reducible refine zaz rfl (.tmp 1) rfl w.heap.size rfl HB.out HM.out ?_)
 refine (zkc _ m HM.out).mono ?_
 rintro e w1 ⟨gc,rfl,hc1,hb1⟩
 have C1:=hide hc1
 have B1:=hide (HB.out.over hb1)
 have N1:=hide (HN.out.below hb1)
 have W1:=hide (zaa W0.out hb1 (Nat.le_refl _))
 have NB:=hide (Blk.new w1 223 #[.nilFunc,.nilFunc,.nilFunc,.nilFunc,.nilFunc,.nilFunc])
 clear hc1 hb1
 go_wp2_with (refine zeW rfl (.tmp 4) (.tmp 8) rfl w1.heap.size rfl (k:=gc) rfl NB.out rfl ?_;intro w2 hb2 hg2;have HB2:=hide hb2;have W2:Hid (Below w1.heap.size w1 w2):=hide (((Below.refl _ _).alloc (Nat.le_refl _) _).grown hg2 (by simp) (by simp));clear hb2 hg2;refine Hid.out ?_)
 refine hide ?_
 have B2:=hide (B1.out.over W2.out)
 have C2:=hide (C1.out.over W2.out C1.out.1.lt)
 have N2:=hide (N1.out.below W2.out)
 have k0:=(B2.out.cell 0).trans ze6
 have hs1:=W1.out.size
 have hs2:=W2.out.size
 have hb1lt:=B1.out.lt
 have hc1lt:=C1.out.1.lt
 have W2':=hide (zaa W1.out W2.out (Nat.le_refl _))
 go_wp2_with fail
 refine (zb1 w2 m.k N2.out).mono ?_
 rintro e w3 ⟨rfl,hb3⟩
 have B3:=hide (B2.out.over hb3)
 have C3:=hide (C2.out.over hb3 C2.out.1.lt)
 have F3:=hide (HB2.out.over hb3)
 have W3:=hide (zaa W2'.out hb3 (Nat.le_refl _))
 have hs3:=hb3.size
 have hf2lt:=HB2.out.lt
 clear hb3 k0
 go_wp2_with fail
 go_loopw [3,12] (fun v i wr=>∃ (j c3:Nat) (B:Option Addr),j≤6∧v = .slice B (wrK m j).length c3∧i = .int .i64 j∧wr.ownsRow w3.heap.size 5 1 (.slice B (wrK m j).length c3) (wrK m j).length (bvs (wrK m j))∧Below w3.heap.size w3 wr) (fun _ i _=>6-(intOf i).toNat)
 case atStart=>exact ⟨0,0,none,by omega,rfl,rfl,World.ownsRow_nil _ _ _ _,Below.refl _ _⟩
 case round =>
  obtain ⟨j,c3,B,hj,rfl,rfl,hown,hbel⟩:=hrel
  have HO:=hide hown
  have WB:=hide hbel
  have Br:=hide (B3.out.over hbel)
  have Cr:=hide (C3.out.over hbel C3.out.1.lt)
  have Fr:=hide (F3.out.over hbel)
  have hsr:=hbel.size
  have HL:=hide (zqe HM.out j hj)
  clear hown hbel
  by_cases h6:j=6
  ·subst h6
   have k0:=(Br.out.cell 0).trans ze6
   have HWV:Hid (((wrK m 6).length:Int)%256=((UInt8.ofNat (wrK m 6).length).toNat:Int)):=hide (by simp)
   obtain ⟨K,hK⟩:∃ K:Nat,m.k=(K:Int):=⟨m.k.toNat,by have:=of_decide_eq_true HK.out;omega⟩
   have hK7:1≤K∧K≤7:=by have:=of_decide_eq_true HK.out;omega
   rw [hK] at k0
   have HKV:Hid (((K:Nat):Int)=((UInt8.ofNat m.k.toNat).toNat:Int)):=hide (by rw [hK,Int.toNat_natCast,zbm (by omega)])
   have HK2:=hide hK
   clear hK
   have HWL:Hid ((zcP m).length=2+(wrK m 6).length):=hide (by unfold zcP zjC;simp;omega)
   have HWE:Hid (zcP m=[UInt8.ofNat m.k.toNat,UInt8.ofNat (wrK m 6).length]++wrK m 6):=hide rfl
   go_wp2_with (at_builtin;go_must (refine zag _ rfl (.tmp 30) (.tmp 31) 36 rfl wr.heap.size 5 i0 Tryz.underlying36 hi0 hz0 hz1 hz2 (.slice (some ⟨wr.heap.size,0,none⟩) 2 2) 2 [UInt8.ofNat m.k.toNat,UInt8.ofNat (wrK m 6).length] rfl (zwh wr _ _ _ _ HKV.out HWV.out) _ _ B (wrK m 6).length c3 (wrK m 6) rfl ((At.own HO.out).alloc (Nat.le_refl _) _) (by have h1:=HL.out;have h4:=HKey.out;omega) (by simp) ?_);intro v5 w5 ho5 hg5 _;have HO5:=hide ho5;have HG5:=hide hg5;clear ho5 hg5)
   go_ret
   refine ⟨_,rfl,?_,?_⟩
   ·rw [HWL.out,HWE.out]
    exact zav HO5.out (by have:=W3.out.size;omega)
   ·exact zmo (W3.out.trans (WB.out.mono (by have:=W3.out.size;omega))) (Nat.le_refl _) _ HG5.out (Nat.le_refl _)
  ·have hjI:(j:Int)<6:=by omega
   cases hp:(za7 m.k).getD j false
   ·have HP:=hide hp
    clear hp
    go_wp2_with (with_reducible refine zaQ rfl (.tmp 11) (.tmp 12) rfl m.k j (by omega) rfl rfl _ HP.out ?_)
    go_roundw
    case rel=>exact ⟨j+1,c3,B,by omega,by rw [zqd HP.out],by go_num,by rw [zqd HP.out];exact HO.out,WB.out⟩
    case measure=>simp [intOf];omega
   ·have HP:=hide hp
    have HPL:=hide (zvm HM.out (j:=j) (by omega))
    have hf0:=(Fr.out.cell 0).trans (show (wfC gc)[0]?=some (.func (.func 183) #[] #[.pointer (some ⟨gc,0,none⟩)]) from rfl)
    have hf1:=(Fr.out.cell 1).trans (show (wfC gc)[1]?=some (.func (.func 184) #[] #[.pointer (some ⟨gc,0,none⟩)]) from rfl)
    have hf2:=(Fr.out.cell 2).trans (show (wfC gc)[2]?=some (.func (.func 185) #[] #[.pointer (some ⟨gc,0,none⟩)]) from rfl)
    have hf3:=(Fr.out.cell 3).trans (show (wfC gc)[3]?=some (.func (.func 187) #[] #[.pointer (some ⟨gc,0,none⟩)]) from rfl)
    have hf4:=(Fr.out.cell 4).trans (show (wfC gc)[4]?=some (.func (.func 188) #[] #[.pointer (some ⟨gc,0,none⟩)]) from rfl)
    have hf5:=(Fr.out.cell 5).trans (show (wfC gc)[5]?=some (.func (.func 189) #[] #[.pointer (some ⟨gc,0,none⟩)]) from rfl)
    clear hp
    rcases (show j=0∨j=1∨j=2∨j=3∨j=4∨j=5 by omega) with rfl | rfl | rfl | rfl | rfl | rfl
    all_goals
     clear h6 hjI hj
     go_wp2_with (with_reducible refine zeP HP.out rfl (.tmp 11) (.tmp 12) rfl (by omega) rfl rfl ?_)
     first
      | refine (zvs wr _ m Cr.out).mono ?_
      | refine (zvr wr _ m Cr.out).mono ?_
      | refine (zvq wr _ m Cr.out).mono ?_
      | refine (zvp wr _ m Cr.out).mono ?_
      | refine (zvo wr _ m Cr.out).mono ?_
      | refine (zvn wr _ m Cr.out).mono ?_
     rintro e w4 ⟨A4,n4,c4,rfl,hc4,ha4,hb4⟩
     have HA4:=hide ha4
     have HO4:=hide (zaR HO.out hb4)
     have W4:=hide (zaa WB.out hb4 (Nat.le_refl _))
     have hs4:=hb4.size
     have HN4:=hide ha4.len
     clear ha4 hb4 hf0 hf1 hf2 hf3 hf4 hf5
     go_wp2_with (at_builtin;go_must (refine zag _ rfl (.tmp 17) (.tmp 21) 36 rfl w3.heap.size 5 i0 Tryz.underlying36 hi0 hz0 hz1 hz2 _ _ _ rfl HO4.out 0 _ A4 n4 c4 _ rfl HA4.out (by have h1:=HL.out;have h2:=HPL.out;have h3:=HN4.out;have h4:=HKey.out;omega) (by omega) ?_);intro v5 w5 ho5 hg5 _;rw [← HN4.out,← List.length_append,← zqc HP.out] at ho5;have HO5:=hide ho5;have HG5:=hide hg5;clear ho5 hg5)
     obtain ⟨A5,c5,rfl,_,_⟩:=zac HO5.out
     go_roundw
     case rel=>refine ⟨_,c5,A5,?_,?_,?_,HO5.out,W4.out.grown HG5.out (by omega) (fun g hg=>(HO4.out.lt g hg).1)⟩ <;> first | omega | rfl | go_num
     case measure=>simp [intOf]
end
end Go.Proofs.YtookpplebikfnaaGreatDoor
