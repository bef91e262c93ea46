/-
  Why attributes end a session: subOf of package update, in whatever memory, returns a number. The one condition beyond sizes that fit memory: the program's table of known kinds holds what its text lays.
  Plain mathematics of whatever an update tells: what splits off bytes, what is read of it is right, and how great it may be. Nothing here speaks of the program.
  What Parse of package update reads, whatever bytes come: what it tells is right (SafeU). The one condition beyond the size: the program's tables hold what its text lays.
  What comes of any body, as a stream needs it: a message of so many cells, what comes of it, a note that can be read. The conditions: at most 4077 bytes, the library's tables hold what their texts lay.
-/
import Derived.Test.YtjindligkhdddaaGreatDoorSDBN
set_option linter.unusedVariables false
set_option linter.unusedSimpArgs false
namespace Go.Proofs.YtjindligkhdddaaGreatDoor
section
set_option maxRecDepth 20000
set_option maxHeartbeats 1000000
open Go.RowKit
theorem zix {P:Program} (w:World) (t e:TypeId) (K:Nat) (ht:P.underlying t=some (.slice e)) (hs:∀ w,(sizeOf e).run P w = .ok K w) (A:Option Addr) (n c k:Nat) (hk:k≤n) :
  (Instr.sliceAt t (.slice A n c) (some (.int .i64 (k:Int))) none none).run P w = .ok (.slice (if c=k then A else A.map (·.add (k*K))) (n-k) (c-k)) w:=by
 have he:P.elem t=e:=by unfold Program.elem;rw [ht]
 have ht':P.underlying t=some (.slice (P.elem t)):=by rw [he];exact ht
 rw [run_sliceAt_slice w t _ _ _ _ ht',run_slice_l w t A n c ht' .i64 (k:Int) (by omega) (by omega),he,hs,Result.andThen_ok]
 unfold sliced
 simp
theorem zhP {P:Program} {o:Oper} {a:Act} (w:World) (x y:Operand) (t e:TypeId) (K:Nat) (ho:o.op = .slice t x (some y) none none) (ht:P.underlying t=some (.slice e)) (hs:∀ w,(sizeOf e).run P w = .ok K w)
  {A:Option Addr} {n c k:Nat} (hx:a.eval x = .slice A n c) (hy:a.eval y = .int .i64 (k:Int)) (hk:k≤n) :
  (execOp a.eval o).run P w = .ok (.value (.slice (if c=k then A else A.map (·.add (k*K))) (n-k) (c-k))) w:=by
 unfold execOp
 simp only [ho,hx,hy,Option.map_some,Option.map_none,Sem.run_bind,zix w t e K ht hs A n c k hk,Result.andThen_ok,Sem.run_pure]
theorem zqa (w:World):(sizeOf 175).run Tryz.prog w = .ok 3 w:=by kernel_rfl
theorem zgH {ops:Array Oper} {rest:List Oper} {o:Oper} {a:Act} {w:World} {Q:Exit→Act→World→Prop} (hw:Region.wanted o (yielded ops a.tmps)=true) (x y:Operand) (ho:o.op = .slice 124 x (some y) none none)
  {A B:Option Addr} {n c:Nat} (k:Nat) (hB:(if c=k then A else A.map (·.add (k*3)))=B) (hx:a.eval x = .slice A n c) (hy:a.eval y = .int .i64 (k:Int)) (hk':k≤n) (hk:wpList Tryz.prog ops Q rest (a.put o.dst (.slice B (n-k) (c-k))) w):wpList Tryz.prog ops Q (o::rest) a w:=by
 subst hB
 exact zad hw (zhP w x y 124 175 3 ho Tryz.underlying124 zqa hx hy hk') hk
theorem zbV.from_ {w:World} {lo hi n c:Nat} {A:Option Addr} {l:List RawP} (h:zbV w lo hi A n l) (k:Nat) (hk:k≤n) (hc:n≤c):zbV w lo hi (if c=k then A else A.map (·.add (k*3))) (n-k) (l.drop k):=by
 have hl:=h.len
 refine ⟨⟨by rw [List.length_drop,hl],fun hn=>?_⟩,fun x hx=>h.val x (List.mem_of_mem_drop hx)⟩
 have hck:¬ c=k:=by omega
 obtain ⟨b,o,rfl,h1,h2,h3⟩:=h.row.2 (by omega)
 rw [if_neg hck]
 refine ⟨b,o+k*3,by simp [zcy],h1,h2,fun j u hu=>?_⟩
 have hone:∀ x∈l,(rawL x).length=3:=fun x _=>zgk x
 have e:zaX rawL l=zaX rawL (l.take k)++zaX rawL (l.drop k):=by
  conv=>lhs;rw [← List.take_append_drop k l]
  exact ze0 _ _
 have hlen:(zaX rawL (l.take k)).length=k*3:=by
  rw [zdI (fun x hx=>hone x (List.mem_of_mem_take hx)),List.length_take,hl]
  congr 1
  omega
 have h4:=h3 (k*3+j) u (by rw [e,List.getElem?_append_right (by omega),hlen];simpa using hu)
 rwa [← Nat.add_assoc] at h4
def zv3 (x:RawP):Prop:=(Lit.int .i64 x.k).wf=true∧x.v.length≤800000
theorem zxV (w:World) (lo hi:Nat) (x:RawP) (hx:At w lo hi x.A x.n x.v) (hc:x.n≤x.c) (hh:hi≤w.heap.size) (hok:zv3 x) (hK:zcZ w) :
  Calls Tryz.prog 112 #[.agg (rawC x)] w fun e w'=>∃ r:Bool,e = .returned (.bool r)∧Below w.heap.size w w':=by
 have B1:Hid (Blk (w.alloc (.cells (rawC x) 175)) w.heap.size 175 (rawC x)):=hide (Blk.new w _ _)
 have W1:=hide ((Below.refl w.heap.size w).alloc (Nat.le_refl _) (.cells (rawC x) 175))
 have X1:=hide (hx.below (W1.out.mono hh))
 have K1:=hide (hK.below W1.out)
 have HC:=hide hc
 have HO:=hide hok
 have e1:(w.alloc (.cells (rawC x) 175)).heap.size=w.heap.size+1:=by simp
 have E1:=hide e1
 clear hx hK hc hok e1
 go_enter Tryz.func112,Tryz.ntmps112
 go_wp2_with (first
  | (with_reducible refine zbY rfl (.tmp 1) rfl w.heap.size rfl B1.out ?_)
  | ((with_reducible refine zd1 ?_ (.tmp 7) rfl x rfl ?_);· rfl))
 generalize w.alloc (.cells (rawC x) 175)=w1 at *
 have B2:=hide (B1.out.alloc (.cells (rawC x) 175))
 have W2:=hide (W1.out.alloc W1.out.size (.cells (rawC x) 175))
 have W12:=hide ((Below.refl w1.heap.size w1).alloc (Nat.le_refl _) (.cells (rawC x) 175))
 have R2:Hid (zbV (w1.alloc (.cells (rawC x) 175)) 0 (w1.heap.size+1) (some ⟨w1.heap.size,0,none⟩) 1 [x]):=hide ⟨(AtG.one (enc:=rawL) (x:=x) (Blk.new w1 _ _)).more (Nat.zero_le _) (Nat.le_refl _),fun y hy=>by
  rw [List.mem_singleton.1 hy]
  exact ⟨(X1.out.below (W12.out.mono (by rw [E1.out];omega))).more (Nat.zero_le _) (by rw [E1.out];omega),HC.out⟩⟩
 have K2:=hide (K1.out.below W12.out)
 have hz:w1.heap.size+1≤(w1.alloc (.cells (rawC x) 175)).heap.size:=by simp
 have HZ:=hide hz
 clear B1 W1 X1 K1 W12 hz
 generalize w1.alloc (.cells (rawC x) 175)=w2 at *
 have R3:=R2.out
 have hz3:=HZ.out
 rw [E1.out] at R3 hz3
 clear R2 HZ
 have R2:=hide R3
 have HZ:=hide hz3
 clear R3 hz3
 refine (zmj w2 0 _ _ 1 1 [x] R2.out HZ.out (by omega) (fun y hy=>by rw [List.mem_singleton.1 hy];exact HO.out.1) (fun y hy=>by rw [List.mem_singleton.1 hy];exact HO.out.2) K2.out).mono ?_
 rintro e w3 ⟨p,rv,rs,out,rfl,_,hat,_,hb3⟩
 have POB:=hat.ob
 have B3:=hide (B2.out.over hb3)
 have W3:=hide (zaa W2.out hb3 (Nat.le_refl _))
 have NEW:=hide (Blk.new w3 49 zAtt)
 have B4:=hide (B3.out.alloc (.cells zAtt 49))
 have HLT:=hide B3.out.lt
 clear hat hb3 B2 W2 R2 K2 HZ B3
 go_wp2_with (with_reducible refine zaT rfl (.tmp 3) (.tmp 10) rfl w3.heap.size rfl p rfl POB NEW.out rfl ?_;intro w4 hb4 hg4;have B5:=hide (B4.out.grown hg4 (by have:=HLT.out;simp;omega));have W4:Hid (Below w.heap.size w w4):=hide ((W3.out.alloc W3.out.size _).grown hg4 (Nat.le_trans W3.out.size (by simp)) (fun k hk=>by injection hk;have:=W3.out.size;omega));clear hb4 hg4;refine Hid.out ?_)
 refine hide ?_
 have k1:w4.cell? ⟨w.heap.size,1,none⟩=some (.int .i64 x.k):=B5.out.cell 1
 clear NEW B4 B5 W3
 by_cases h1:x.k=14
 ·have h1':(x.k==14)=true:=by rw [h1];rfl
  have h1n:(x.k != 14)=false:=by rw [h1];rfl
  clear h1
  go_wp2
  go_ret
  exact ⟨_,rfl,W4.out⟩
 ·have h1':(x.k==14)=false:=beq_eq_false_iff_ne.2 h1
  have h1n:(x.k != 14)=true:=by rw [bne,h1'];rfl
  clear h1
  by_cases h2:x.k=15
  ·have h2':(x.k==15)=true:=by rw [h2];rfl
   have h2n:(x.k != 15)=false:=by rw [h2];rfl
   clear h2
   go_wp2
   go_ret
   exact ⟨_,rfl,W4.out⟩
  ·have h2':(x.k==15)=false:=beq_eq_false_iff_ne.2 h2
   have h2n:(x.k != 15)=true:=by rw [bne,h2'];rfl
   clear h2
   go_wp2
   go_ret
   exact ⟨_,rfl,W4.out⟩
theorem zwU (w:World) (lo hi:Nat) (x:RawP) (hx:At w lo hi x.A x.n x.v) (hc:x.n≤x.c) (hh:hi≤w.heap.size) (g:Nat) (kd:Int) (hb:Blk w g 3 #[.int .i64 kd]) :
  Calls Tryz.prog 143 #[.agg (rawC x),.pointer (some ⟨g,0,none⟩)] w fun e w'=>∃ r:Bool,e = .returned (.bool r)∧Below w.heap.size w w':=by
 have B1:=Blk.new w 175 (rawC x)
 have W1:=hide ((Below.refl w.heap.size w).alloc (Nat.le_refl _) (.cells (rawC x) 175))
 have k1:(w.alloc (.cells (rawC x) 175)).cell? ⟨w.heap.size,1,none⟩=some (.int .i64 x.k):=B1.cell 1
 have k0:(w.alloc (.cells (rawC x) 175)).cell? ⟨g,0,none⟩=some (.int .i64 kd):=(hb.alloc _).cell 0
 clear hx hb B1
 go_enter Tryz.func143,Tryz.ntmps143
 go_wp2
 go_ret
 exact ⟨_,rfl,W1.out⟩
theorem zn4 (w:World) (lo hi:Nat) (A:Option Addr) (n c:Nat) (l:List RawP) (h:zbV w lo hi A n l) (hh:hi≤w.heap.size) (hn:n≤1000000000000) (hok:∀ x∈l,zv3 x) (hK:zcZ w) :
  Calls Tryz.prog 142 #[.slice A n c,.func (.func 112) #[] #[]] w fun e w'=>∃ r:Int,e = .returned (.int .i64 r)∧(-1≤r∧r<n)∧Below w.heap.size w w':=by
 have H:=hide h
 have HOK:=hide hok
 have HKN:=hide hK
 clear h hok hK
 go_enter Tryz.func142,Tryz.ntmps142
 go_wp2_with fail
 go_loopw [8] (fun i wr=>∃ k:Nat,k≤n∧i = .int .i64 k∧Below w.heap.size w wr) (fun i _=>n-(intOf i).toNat)
 case atStart=>exact ⟨0,Nat.zero_le _,rfl,Below.refl _ _⟩
 case round =>
  obtain ⟨k,hk,rfl,hbel⟩:=hrel
  have WB:=hide hbel
  clear hbel
  by_cases hlt:k<n
  ·have YR:=hide (H.out.below (WB.out.mono hh))
   obtain ⟨b,o,x,rfl,_,_,hx,hat,hxa,hxc⟩:=YR.out.at_ hlt
   have hmem:=List.mem_of_getElem? hx
   have HAT:=hide hat
   have HXA:=hide hxa
   have HXC:=hide hxc
   have HMEM:=hide hmem
   have HO1:=hide (HOK.out x HMEM.out)
   have KN:=hide (HKN.out.below WB.out)
   have hh1:=Nat.le_trans hh WB.out.size
   have hkl:((k:Nat):Int)<(n:Int):=by omega
   clear hx hat hmem hxa hxc YR
   go_wp2_with (refine zcf rfl (.tmp 14) rfl rfl HAT.out ?_)
   refine (zxV wr lo hi x HXA.out HXC.out hh1 HO1.out KN.out).mono ?_
   rintro e w1 ⟨r,rfl,hb1⟩
   have WB1:=hide (zaa WB.out hb1 (Nat.le_refl _))
   clear hb1
   cases r
   ·go_wp2_with fail
    go_roundw
    case rel=>exact ⟨k+1,by omega,by go_num,WB1.out⟩
    case measure=>simp [intOf];omega
   ·go_wp2_with fail
    go_ret
    exact ⟨_,rfl,⟨by omega,by omega⟩,WB1.out⟩
  ·obtain rfl:k=n:=by omega
   go_wp2
   go_ret
   exact ⟨_,rfl,⟨by omega,by omega⟩,WB.out⟩
theorem zjN (w:World) (lo hi:Nat) (A:Option Addr) (n c:Nat) (l:List RawP) (h:zbV w lo hi A n l) (hh:hi≤w.heap.size) (hn:n≤1000000000000) (hok:∀ x∈l,zv3 x) (hK:zcZ w) :
  Calls Tryz.prog 111 #[.slice A n c,.func (.func 112) #[] #[]] w fun e w'=>∃ r:Bool,e = .returned (.bool r)∧Below w.heap.size w w':=by
 have HC:=hide (zn4 w lo hi A n c l h hh hn hok hK)
 clear h hok hK
 go_enter Tryz.func111,Tryz.ntmps111
 go_wp2_with fail
 refine HC.out.mono ?_
 rintro e w1 ⟨r,rfl,_,hb1⟩
 go_wp2
 go_ret
 exact ⟨_,rfl,hb1⟩
theorem zi3 (w:World) (lo hi:Nat) (A:Option Addr) (n c:Nat) (l:List RawP) (h:zbV w lo hi A n l) (hh:hi≤w.heap.size) (hn:n≤1000000000000) (g:Nat) (kd:Int) (hb:Blk w g 3 #[.int .i64 kd]) :
  Calls Tryz.prog 142 #[.slice A n c,.func (.func 143) #[] #[.pointer (some ⟨g,0,none⟩)]] w fun e w'=>∃ r:Int,e = .returned (.int .i64 r)∧(-1≤r∧r<n)∧Below w.heap.size w w':=by
 have H:=hide h
 have HB:=hide hb
 clear h hb
 go_enter Tryz.func142,Tryz.ntmps142
 go_wp2_with fail
 go_loopw [8] (fun i wr=>∃ k:Nat,k≤n∧i = .int .i64 k∧Below w.heap.size w wr) (fun i _=>n-(intOf i).toNat)
 case atStart=>exact ⟨0,Nat.zero_le _,rfl,Below.refl _ _⟩
 case round =>
  obtain ⟨k,hk,rfl,hbel⟩:=hrel
  have WB:=hide hbel
  clear hbel
  by_cases hlt:k<n
  ·have YR:=hide (H.out.below (WB.out.mono hh))
   obtain ⟨b,o,x,rfl,_,_,hx,hat,hxa,hxc⟩:=YR.out.at_ hlt
   have hmem:=List.mem_of_getElem? hx
   have HAT:=hide hat
   have HXA:=hide hxa
   have HXC:=hide hxc
   have HMEM:=hide hmem
   have HG:=hide (HB.out.over WB.out)
   have hh1:=Nat.le_trans hh WB.out.size
   have hkl:((k:Nat):Int)<(n:Int):=by omega
   clear hx hat hmem hxa hxc YR
   go_wp2_with (refine zcf rfl (.tmp 14) rfl rfl HAT.out ?_)
   refine (zwU wr lo hi x HXA.out HXC.out hh1 g kd HG.out).mono ?_
   rintro e w1 ⟨r,rfl,hb1⟩
   have WB1:=hide (zaa WB.out hb1 (Nat.le_refl _))
   clear hb1
   cases r
   ·go_wp2_with fail
    go_roundw
    case rel=>exact ⟨k+1,by omega,by go_num,WB1.out⟩
    case measure=>simp [intOf];omega
   ·go_wp2_with fail
    go_ret
    exact ⟨_,rfl,⟨by omega,by omega⟩,WB1.out⟩
  ·obtain rfl:k=n:=by omega
   go_wp2
   go_ret
   exact ⟨_,rfl,⟨by omega,by omega⟩,WB.out⟩
theorem zjL (w:World) (lo hi:Nat) (A:Option Addr) (n c:Nat) (l:List RawP) (h:zbV w lo hi A n l) (hh:hi≤w.heap.size) (hn:n≤1000000000000) (g:Nat) (kd:Int) (hb:Blk w g 3 #[.int .i64 kd]) :
  Calls Tryz.prog 111 #[.slice A n c,.func (.func 143) #[] #[.pointer (some ⟨g,0,none⟩)]] w fun e w'=>∃ r:Bool,e = .returned (.bool r)∧Below w.heap.size w w':=by
 have HC:=hide (zi3 w lo hi A n c l h hh hn g kd hb)
 clear h hb
 go_enter Tryz.func111,Tryz.ntmps111
 go_wp2_with fail
 refine HC.out.mono ?_
 rintro e w1 ⟨r,rfl,_,hb1⟩
 go_wp2
 go_ret
 exact ⟨_,rfl,hb1⟩
theorem zlN (w:World) (lo hi:Nat) (A:Option Addr) (n c:Nat) (l:List RawP) (h:zbV w lo hi A n l) (hh:hi≤w.heap.size) (hn:n≤1000000000) (hc:n≤c) (kd:Int) :
  Calls Tryz.prog 113 #[.slice A n c,.int .i64 kd] w fun e w'=>∃ r:Bool,e = .returned (.bool r)∧Below w.heap.size w w':=by
 have B1:=hide (Blk.new w 3 #[.int .i64 kd])
 have W1:=hide ((Below.refl w.heap.size w).alloc (Nat.le_refl _) (.cells #[.int .i64 kd] 3))
 have H1:=hide (h.below (W1.out.mono hh))
 have HH1:=hide (Nat.le_trans hh W1.out.size)
 clear h
 go_enter Tryz.func113,Tryz.ntmps113
 go_wp2_with fail
 generalize w.alloc (.cells #[.int .i64 kd] 3)=w1 at *
 refine (zi3 w1 lo hi A n c l H1.out HH1.out (by omega) w.heap.size kd B1.out).mono ?_
 rintro e w2 ⟨r,rfl,⟨hr1,hr2⟩,hb2⟩
 have B2:=hide (B1.out.over hb2)
 have H2:=hide (H1.out.below (hb2.mono HH1.out))
 have HH2:=hide (Nat.le_trans HH1.out hb2.size)
 have W2:=hide (zaa W1.out hb2 (Nat.le_refl _))
 clear hb2 B1 H1 HH1 W1
 by_cases hr:0≤r
 ·obtain ⟨k,rfl⟩:∃ k:Nat,r=(k:Int):=⟨r.toNat,by omega⟩
  have hk:k+1≤n:=by omega
  have h3:=H2.out.from_ (c:=c) (k+1) hk hc
  obtain ⟨B,hB⟩:∃ B,(if c=k+1 then A else A.map (·.add ((k+1)*3)))=B:=⟨_,rfl⟩
  rw [hB] at h3
  have H3:=hide h3
  have HB:=hide hB
  clear hr hr1 h3 hB
  go_wp2_with ((with_reducible refine zgH ?_ (.tmp 14) (.tmp 16) rfl (k+1) HB.out rfl ?_ hk ?_);(· rfl);· (first | rfl | go_num | (show Value.int .i64 _=_;go_num)))
  refine (zjL w2 lo hi _ _ _ _ H3.out HH2.out (by omega) w.heap.size kd B2.out).mono ?_
  rintro e w3 ⟨q,rfl,hb3⟩
  have W3:=hide (zaa W2.out hb3 (Nat.le_refl _))
  clear hb3
  go_wp2
  go_ret
  exact ⟨_,rfl,W3.out⟩
 ·go_wp2
  go_ret
  exact ⟨.inl rfl,W2.out⟩
theorem zrI (w:World) (lo hi:Nat) (A:Option Addr) (n c:Nat) (l:List RawP) (h:zbV w lo hi A n l) (hh:hi≤w.heap.size) (hn:n≤1000000000) (hc:n≤c) (hok:∀ x∈l,zv3 x) (hK:zcZ w) :
  Calls Tryz.prog 74 #[.slice A n c] w fun e w'=>∃ s:Int,e = .returned (.int .i64 s)∧Below w.heap.size w w':=by
 have H:=hide h
 have HH:=hide hh
 have HO:=hide hok
 have HK:=hide hK
 clear h hok hK
 go_enter Tryz.func74,Tryz.ntmps74
 go_wp2_with fail
 refine (zjN w lo hi A n c l H.out HH.out (by omega) HO.out HK.out).mono ?_
 rintro e w1 ⟨r,rfl,hb1⟩
 have W1:=hide hb1
 have H1:=hide (H.out.below (hb1.mono HH.out))
 have HH1:=hide (Nat.le_trans HH.out hb1.size)
 clear hb1
 cases r
 ·go_wp2_with fail
  refine (zlN w1 lo hi A n c l H1.out HH1.out hn hc 14).mono ?_
  rintro e w2 ⟨r,rfl,hb2⟩
  have W2:=hide (zaa W1.out hb2 (Nat.le_refl _))
  have H2:=hide (H1.out.below (hb2.mono HH1.out))
  have HH2:=hide (Nat.le_trans HH1.out hb2.size)
  clear hb2
  cases r
  ·go_wp2_with fail
   refine (zlN w2 lo hi A n c l H2.out HH2.out hn hc 15).mono ?_
   rintro e w3 ⟨r,rfl,hb3⟩
   have W3:=hide (zaa W2.out hb3 (Nat.le_refl _))
   clear hb3
   cases r
   ·go_wp2
    go_ret
    exact ⟨_,rfl,W3.out⟩
   ·go_wp2
    go_ret
    exact ⟨_,rfl,W3.out⟩
  ·go_wp2
   go_ret
   exact ⟨_,rfl,W2.out⟩
 ·go_wp2
  go_ret
  exact ⟨_,rfl,W1.out⟩
end
section
open Go.RowKit
theorem zj2:∀ (c:Nat) (b:List UInt8),(zbr c b).1.length≤c
 | 0,b=>by unfold zbr;split <;> exact Nat.le_refl _
 | c+1,b=>by
  unfold zbr
  have ih:=zj2 c (b.drop (lenB b))
  split
  ·exact Nat.zero_le _
  ·split
   ·split
    ·show (zbr c (b.drop (lenB b))).1.length+1≤c+1
     omega
    ·exact Nat.zero_le _
   ·exact Nat.zero_le _
structure RwOk (n:Nat) (x:Rw):Prop where
 k0:0≤x.k
 k1:x.k≤255
 v:x.v.length≤n
theorem RwOk.mono {n m:Nat} {x:Rw} (h:RwOk n x) (hn:n≤m):RwOk m x:=⟨h.k0,h.k1,Nat.le_trans h.v hn⟩
theorem zlX:∀ (c:Nat) (b:List UInt8),∀ x∈(zbr c b).1,RwOk b.length x
 | 0,b=>by unfold zbr;split <;> exact fun x hx=>by cases hx
 | c+1,b=>by
  unfold zbr
  have ih:=zlX c (b.drop (lenB b))
  split
  ·exact fun x hx=>by cases hx
  ·split
   ·split
    ·intro x hx
     have hx':x=rawB b∨x∈(zbr c (b.drop (lenB b))).1:=List.mem_cons.1 hx
     rcases hx' with rfl | hx'
     ·refine ⟨Int.natCast_nonneg _,?_,?_⟩
      ·have:=(b.getD 1 0).toNat_lt
       show (((b.getD 1 0).toNat:Nat):Int)≤255
       omega
      ·show ((b.drop (2+sizB b)).take (cntB b)).length≤b.length
       rw [List.length_take,List.length_drop]
       omega
     ·exact (ih x hx').mono (by rw [List.length_drop];omega)
    ·exact fun x hx=>by cases hx
   ·exact fun x hx=>by cases hx
theorem zuv (b:List UInt8):(zdk b).1.length≤64∧∀ x∈(zdk b).1,RwOk b.length x:=⟨zj2 64 b,zlX 64 b⟩
theorem zxD (b:List UInt8):(ownB b).length≤b.length:=by
 unfold ownB
 have h:∀ (c:List UInt8) (k:Int),(zab c k).length≤c.length∧(zae c k).length≤c.length:=fun c k=>by
  unfold zab zae
  constructor
  ·split
   ·rw [List.length_take];omega
   ·exact Nat.zero_le _
  ·split
   ·rw [List.length_drop];omega
   ·exact Nat.zero_le _
 have hn:∀ (c:List UInt8) (k:Nat),(zaf c k).length≤c.length:=fun c k=>by
  unfold zaf
  split
  ·exact (h c _).2
  ·exact Nat.zero_le _
 refine Nat.le_trans (h _ _).1 (Nat.le_trans (hn _ _) ?_)
 unfold spR
 refine Nat.le_trans (h _ _).2 (hn _ _)
theorem zxn {l:List RawP} {k:Nat} {a:Ats} {rest:List Rw} {o:Int} (h:zrb l k a rest o):zdj a=true∧(∀ x∈rest,x∈l.map RawP.raw)∧(0≤o∧o≤3):=by
 induction h with
 | start=>exact ⟨by kernel_rfl,(fun x hx=>by cases hx),by decide,by decide⟩
 | step h1 hx hs ih =>
  obtain ⟨i1,i2,i3,i4⟩:=ih
  have hmem:=List.mem_map_of_mem (f:=RawP.raw) (List.mem_of_getElem? hx)
  rcases hs with ⟨_,rfl,⟨_,rfl,rfl⟩ | ⟨_,⟨rfl,rfl⟩ | ⟨rfl,i,_,_,_,hr,rfl⟩⟩⟩ | ⟨_,rfl,⟨_,rfl,rfl⟩ | ⟨_,rfl,ho⟩⟩ | ⟨_,_,_,rfl,⟨_,rfl,rfl⟩ | ⟨_,rfl,hr⟩⟩
  ·exact ⟨i1,i2,by omega,by omega⟩
  ·exact ⟨i1,i2,by omega,by omega⟩
  ·exact ⟨hr,i2,by omega,by omega⟩
  ·exact ⟨i1,i2,by omega,by omega⟩
  ·refine ⟨i1,fun y hy=>?_,?_,?_⟩
   ·rcases List.mem_append.1 hy with hy | hy
    ·exact i2 y hy
    ·rw [List.mem_singleton.1 hy];exact hmem
   ·split at ho <;> omega
   ·split at ho <;> omega
  ·exact ⟨i1,i2,by omega,by omega⟩
  ·refine ⟨i1,fun y hy=>?_,by omega,by omega⟩
   rcases hr with rfl | rfl
   ·exact i2 y hy
   ·rcases List.mem_append.1 hy with hy | hy
    ·exact i2 y hy
    ·rw [List.mem_singleton.1 hy];exact hmem
theorem fin_ok {l:List RawP} {o:Int} (h:0≤o∧o≤3):0≤finO l o∧finO l o≤3:=by
 unfold finO
 split <;> omega
structure TbOk (q:Bool) (n:Nat) (t:Tb):Prop where
 w:t.W
 rt:zcb q t=true
 h:q=true→hasT t=true
 ln:(valT q t).length≤n
theorem zwi {r:Bool} {b:List UInt8} {t:Tb} (h:t∈rdL r b):TbOk r b.length t:=by
 unfold rdL at h
 split at h
 ·rename_i hc
  rw [List.mem_singleton] at h
  subst h
  obtain ⟨h0,h1⟩:=hc
  unfold rdO at h0
  split at h0
  ·cases h0
  ·split at h0
   ·cases h0
   ·split at h0
    ·rename_i h2
     exact ⟨rdT_W r b,h2.1,h1,by rw [h2.2];exact Nat.le_refl _⟩
    ·cases h0
 ·cases h
theorem rdO_le (r:Bool) (b:List UInt8):0≤rdO r b∧rdO r b≤3:=by
 unfold rdO
 split
 ·decide
 ·split
  ·decide
  ·split <;> decide
structure zyy (n:Nat) (s:List Tb × List Tb × Int):Prop where
 re:∀ t∈s.1,TbOk true n t
 un:∀ t∈s.2.1,TbOk false n t
 lr:s.1.length≤1
 lu:s.2.1.length≤1
 o0:0≤s.2.2
 o3:s.2.2≤3
theorem TbOk.mono {r:Bool} {n m:Nat} {t:Tb} (h:TbOk r n t) (hn:n≤m):TbOk r m t:=⟨h.w,h.rt,h.h,Nat.le_trans h.ln hn⟩
theorem zrG {n:Nat}:∀ (l:List Rw),(∀ x∈l,x.v.length≤n)→∀ s,zyy n s→zyy n (l.foldl zch s)
 | [],_,s,hs=>hs
 | x::r,hl,s,hs=>by
  refine zrG r (fun y hy=>hl y (List.mem_cons_of_mem _ hy)) _ ?_
  have hx:=hl x List.mem_cons_self
  have hq:=fun q=>rdO_le q x.v
  unfold zch
  split
  ·exact ⟨fun t ht=>(zwi ht).mono hx,hs.un,zkQ _ _,hs.lu,by have:=hs.o0;have:=(hq true).1;show 0≤max _ _;omega,by have:=hs.o3;have:=(hq true).2;show max _ _≤3;omega⟩
  ·split
   ·exact ⟨hs.re,fun t ht=>(zwi ht).mono hx,hs.lr,zkQ _ _,by have:=hs.o0;have:=(hq false).1;show 0≤max _ _;omega,by have:=hs.o3;have:=(hq false).2;show max _ _≤3;omega⟩
   ·exact ⟨hs.re,hs.un,hs.lr,hs.lu,by have:=hs.o0;show 0≤max _ _;omega,by have:=hs.o3;show max _ _≤3;omega⟩
theorem zkB {n:Nat} {l:List Rw} (h:∀ x∈l,x.v.length≤n):zyy n (tabs l):=zrG l h _ ⟨fun t ht=>(by cases ht),fun t ht=>(by cases ht),Nat.zero_le _,Nat.zero_le _,by decide,by decide⟩
structure zt5 (n:Nat) (t:Tb):Prop where
 m:t.ms.length≤n
 u:t.us.length≤n
 k:∀ x∈t.ms,x.key.length≤64
theorem znu {m:Mr} (h:zbf m=true):m.key.length≤64:=by
 have h1:=(zbs m).1 h
 by_cases h4:m.k=4
 ·exact (zk9 (h1.key h4)).2.2
 ·rw [h1.core.key h4];exact Nat.zero_le _
theorem zjZ {r:Bool} {n:Nat} {t:Tb} (h:TbOk r n t):zt5 n t:=by
 have h1:=h.rt
 unfold zcb at h1
 simp only [Bool.and_eq_true] at h1
 have hk:t.s=4∨t.s=16:=by
  have h2:=h1.1
  unfold zdG at h2
  simp only [Bool.and_eq_true,decide_eq_true_eq] at h2
  exact h2.1
 have hv:(ziD t).length≤n:=by
  refine Nat.le_trans ?_ h.ln
  unfold valT
  simp only [List.length_cons,List.length_append]
  omega
 have hrs:=h1.2.1
 unfold ziD at hv
 rw [List.length_append] at hv
 unfold zdi at hrs
 split at hrs
 ·simp only [Bool.and_eq_true,decide_eq_true_eq] at hrs
  obtain ⟨hu,hm⟩:=hrs
  have e:=(zxg hk h.w.ms hm).1
  rw [e] at hv
  have:=zoQ t.ms
  refine ⟨by omega,by omega,fun x hx=>?_⟩
  exact znu (zi1 hk (h.w.ms x hx) (List.all_eq_true.1 hm x hx)).1
 ·simp only [Bool.and_eq_true,decide_eq_true_eq] at hrs
  obtain ⟨hm,hu⟩:=hrs
  have hall:zeQ t.us=true:=by
   unfold zeQ
   rw [List.all_eq_true] at hu ⊢
   intro x hx
   have h3:=hu x hx
   unfold isU at h3
   simp only [Bool.and_eq_true] at h3
   exact h3.1
  have e:zd6 t.us=rowU t.us:=by unfold zd6;rw [if_pos hall]
  rw [e] at hv
  have:=zoO t.us
  refine ⟨by omega,by omega,fun x hx=>?_⟩
  rw [List.eq_nil_of_length_eq_zero hm] at hx
  cases hx
theorem zvr {n:Nat} {t:Tb} (h:zt5 n t):zt5 n (zi4 t):=⟨h.m,h.u,h.k⟩
structure zyz (n:Nat) (u:Up) (o nc:Int):Prop where
 o0:0≤o
 o3:o≤3
 lu:u.un.length≤2
 note:nc=if o=3 then 3 else 0
 empty:o=3→u=zjb
 gone:o=2→u.re=[]
 at_:zdj u.at_=true
 re:fewT znw u.re=true
 un:∀ t∈u.un,zcb false t=true
 none:u.re.length=0→u.at_=zeV
 fr:∀ t∈u.re,zt5 n t
 fu:∀ t∈u.un,zt5 n t
theorem zwe {n:Nat} {l:List Tb} (h:∀ t∈l,TbOk true n t) (hl:l.length≤1):fewT znw l=true:=by
 unfold fewT
 rw [decide_eq_true hl,Bool.true_and,List.all_eq_true]
 intro t ht
 unfold znw
 rw [(h t ht).rt,(h t ht).h rfl]
 rfl
theorem zfZ:zdj zeV=true:=by kernel_rfl
theorem zgR (n:Nat):zyz n zjb 3 3 :=
 ⟨by decide,by decide,Nat.zero_le _,rfl,(fun _=>rfl),(fun h=>absurd h (by decide)),zfZ,rfl,(fun t ht=>by cases ht),(fun _=>rfl),(fun t ht=>by cases ht),(fun t ht=>by cases ht)⟩
theorem zqg {b:List UInt8} {J:Ats→List Rw→Int→Prop} {n:Nat} {u:Up} {o nc ns:Int} (h:zdw b J u o nc ns)
  (hJ:∀ a rest o,J a rest o→zdj a=true∧(∀ x∈rest,x.v.length≤n)∧0≤o∧o≤3):zyz n u o nc:=by
 cases h with
 | torn _=>exact zgR n
 | reset _ _ _ _ _=>exact zgR n
 | table _ _ _ _ _ _ _=>exact zgR n
 | held a rest q _ hj _ _ =>
  obtain ⟨_,j2,_,_⟩:=hJ _ _ _ hj
  have ht:=zkB j2
  refine ⟨by decide,by decide,?_,rfl,(fun h=>absurd h (by decide)),(fun _=>rfl),zfZ,rfl,(fun t ht'=>?_),(fun _=>rfl),(fun t ht'=>by cases ht'),(fun t ht'=>?_)⟩
  ·show ((tabs rest).1.map zi4++(tabs rest).2.1).length≤2
   have:=ht.lr;have:=ht.lu
   rw [List.length_append,List.length_map];omega
  ·rcases List.mem_append.1 (show t∈(tabs rest).1.map zi4++(tabs rest).2.1 from ht') with h1 | h1
   ·obtain ⟨x,hx,rfl⟩:=List.mem_map.1 h1
    exact zqO (ht.re x hx).rt
   ·exact (ht.un t h1).rt
  ·rcases List.mem_append.1 (show t∈(tabs rest).1.map zi4++(tabs rest).2.1 from ht') with h1 | h1
   ·obtain ⟨x,hx,rfl⟩:=List.mem_map.1 h1
    exact zvr (zjZ (ht.re x hx))
   ·exact zjZ (ht.un t h1)
 | reach a rest q _ _ hj _ hm h3 h2 hl =>
  obtain ⟨j1,j2,j3,j4⟩:=hJ _ _ _ hj
  have ht:=zkB j2
  have h0:=ht.o0;have h4:=ht.o3
  refine ⟨by omega,by omega,Nat.le_trans ht.lu (by decide),by rw [if_neg h3],fun e=>absurd e h3,fun e=>absurd e h2,j1,zwe ht.re ht.lr,fun t h1=>(ht.un t h1).rt,fun e=>absurd (show (tabs rest).1.length=0 from e) (by omega),fun t h1=>zjZ (ht.re t h1),fun t h1=>zjZ (ht.un t h1)⟩
 | none a rest q _ _ hj _ hm h3 h2 hl =>
  obtain ⟨j1,j2,j3,j4⟩:=hJ _ _ _ hj
  have ht:=zkB j2
  have h0:=ht.o0;have h4:=ht.o3
  exact ⟨by omega,by omega,Nat.le_trans ht.lu (by decide),by rw [if_neg h3],fun e=>absurd e h3,fun e=>absurd e h2,zfZ,zwe ht.re ht.lr,fun t h1=>(ht.un t h1).rt,fun _=>rfl,fun t h1=>zjZ (ht.re t h1),fun t h1=>zjZ (ht.un t h1)⟩
end
section
open Go.RowKit
structure JAny (n:Nat) (a:Ats) (rest:List Rw) (o:Int):Prop where
 r:zdj a=true
 v:∀ x∈rest,x.v.length≤n
 l:rest.length≤64
 o0:0≤o
 o3:o≤3
theorem zos.imp {w:World} {J J':Ats→List Rw→Int→Prop} (h:∀ a r o,J a r o→J' a r o) {e:Ending} {w':World} (hg:zos w J e w'):zos w J' e w':=by
 obtain ⟨p,rv,rs,out,h1,h2,h3⟩:=hg
 exact ⟨p,rv,rs,out,h1,h _ _ _ h2,h3⟩
theorem k_wf {k:Int} (h0:0≤k) (h1:k≤255):(Lit.int .i64 k).wf=true:=by
 simp [Lit.wf,IntKind.min,IntKind.max,IntKind.signed,IntKind.bits]
 omega
theorem zka {b:List UInt8} {w:World} {lo hi n:Nat} {A:Option Addr} {ys:List RawP} (h:zbV w lo hi A n ys) (e:ys.map RawP.raw=(zdk (ownB b)).1):n≤64∧∀ x∈ys,(Lit.int .i64 x.k).wf=true∧x.v.length≤b.length:=by
 obtain ⟨h1,h2⟩:=zuv (ownB b)
 have hl:=h.len
 have e1:=congrArg List.length e
 rw [List.length_map] at e1
 refine ⟨by omega,fun x hx=>?_⟩
 have h3:=h2 x.raw (by rw [← e];exact List.mem_map_of_mem (f:=RawP.raw) hx)
 exact ⟨k_wf h3.k0 h3.k1,Nat.le_trans h3.v (zxD b)⟩
def zyD (w:World) (n:Nat) (e:Ending) (w':World):Prop :=
 ∃ (U:UpP) (o nc ns:Int),e = .returned (.tuple #[.agg (updC U),.int .i64 o,.agg (zgZ nc ns)])∧UpAt w' w.heap.size w'.heap.size U∧zyz n U.up o nc∧Below w.heap.size w w'
theorem zpD (w:World) (lo hi:Nat) (A:Option Addr) (n c:Nat) (b:List UInt8) (h:At w lo hi A n b) (hh:hi≤w.heap.size) (hn:n≤800000) (hN:za0 w) (hK:zcZ w) :
  Calls Tryz.prog 41 #[.slice A n c] w (zyD w n):=by
 have hl:b.length=n:=h.len
 refine (zpC w lo hi A n c b h hh (by omega) hN (JAny n) (fun a rest o hj _=>⟨by have:=hj.l;omega,fun x hx=>by have:=hj.v x hx;omega⟩) ?_ ?_).mono ?_
 ·intro wr A' n' c' ys hy he _ hb
  obtain ⟨f1,f2⟩:=zka hy he
  refine (zmj wr _ _ A' n' c' ys hy (Nat.le_refl _) (by omega) (fun x hx=>(f2 x hx).1) (fun x hx=>by have:=(f2 x hx).2;omega) (hK.below hb)).mono fun e w' hg=>?_
  refine zos.imp (fun a r o hj=>?_) hg
  obtain ⟨q,⟨hq,hlen⟩,rfl⟩:=hj
  obtain ⟨r1,r2,r3⟩:=zxn hq
  obtain ⟨o1,o2⟩:=fin_ok (l:=ys) r3
  refine ⟨r1,fun x hx=>?_,by omega,o1,o2⟩
  obtain ⟨y,hy',rfl⟩:=List.mem_map.1 (r2 x hx)
  have:=(f2 y hy').2
  show y.v.length≤n
  omega
 ·intro wr A' n' c' ys hy hc he hb _
  obtain ⟨f1,f2⟩:=zka hy he
  exact zrI wr _ _ A' n' c' ys hy (Nat.le_refl _) (by omega) hc (fun x hx=>⟨(f2 x hx).1,by have:=(f2 x hx).2;omega⟩) (hK.below hb)
 ·rintro e w' ⟨U,o,nc,ns,rfl,hu,ho,hb⟩
  exact ⟨U,o,nc,ns,rfl,hu,zqg ho (fun a rest o hj=>⟨hj.r,hj.v,hj.o0,hj.o3⟩),hb⟩
end
section
open Go.RowKit
theorem zvZ {L:List Value} (h:∀ v∈L,v.oneCell'=true):L.toArray.all (·.oneCell')=true:=by
 rw [Array.all_eq_true_iff_forall_mem]
 intro v hv
 exact h v (by simpa using hv)
theorem UpAt.far12 {w w':World} {lo g:Nat} {u:UpP} (h:UpAt w lo w.heap.size u) (hg:w.grownBy w' (some g)) (hl:g<lo∨w.heap.size≤g):UpAt w' lo w'.heap.size u :=
 (h.keep (fun p h1 h2=>World.cell?_of_block (hg.block p.block h2 (by intro e;injection e;omega)))).more (Nat.le_refl _) hg.size
def QUq (lo:Nat) (C:Array Value) (o:Int) (y:NoP) (z:World):Prop:=∃ (U:UpP) (nc ns:Int),C=updC U∧y=no0 nc ns∧UpAt z lo z.heap.size U
theorem zsm:zm8 QUq:=fun lo C o y w w' g hl hg h=>by
 obtain ⟨U,nc,ns,h1,h2,h4⟩:=h
 exact ⟨U,nc,ns,h1,h2,h4.far12 hg hl⟩
theorem zvO (w:World) (lo hi:Nat) (A:Option Addr) (n c:Nat) (b:List UInt8) (h:At w lo hi A n b) (hh:hi≤w.heap.size) (hn:n≤800000) (hN:za0 w) (hK:zcZ w) :
  Calls Tryz.prog 11 #[.int .i64 2,.slice A n c] w (zdM QUq (fun C=>meC 2 zOpL C.toList zNoL zFaL) w):=by
 have hb0:=zf9 w
 refine zft w 2 (.slice A n c) (fun C=>.iface 52 (.agg C)) QUq _ zsm (zxO (w11 w) _ QUq zsm ?_) ?_
 ·have hb1:Below (w11 w).heap.size (w11 w) ((w11 w).alloc (.cells zNo 30)):=(Below.refl _ _).alloc (Nat.le_refl _) _
  have h1:=(h.below (hb0.mono hh)).below (hb1.mono (Nat.le_trans hh hb0.size))
  refine (zpD _ lo hi A n c b h1 (Nat.le_trans (Nat.le_trans hh hb0.size) hb1.size) hn ((hN.below hb0).below hb1) ((hK.below hb0).below hb1)).mono ?_
  rintro e w' ⟨U,o,nc,ns,rfl,h2,h3,h4⟩
  exact ⟨updC U,o,no0 nc ns,rfl,⟨U,nc,ns,rfl,rfl,h2⟩,h4⟩
 ·rintro l C o y x ⟨U,nc,ns,rfl,_,hu⟩ ho
  exact ⟨zOpL,(updC U).toList,zNoL,zFaL,zk4 rfl (by simpa using zdB hu.ob) rfl rfl zgE (zhU U) zfI zfJ,rfl,fun x=>zuz x (updC U) (zdB hu.ob) (zvZ (zhU U))⟩
def BRes (k:Int) (w:World) (e:Ending) (w':World):Prop :=
 ∃ (C:Array Value) (o:Int) (y:NoP),e = .returned (.tuple #[.agg C,.int .i64 o,.agg (noC y)])∧Below w.heap.size w w'∧C.size=53∧C.all (·.oneCell')=true∧NoAt w' w.heap.size w'.heap.size y∧(k=4→C=zMe 4∧o=0)∧y.dn≤2
theorem zmt (w:World) (lo hi:Nat) (c s:Int):NoAt w lo hi (no0 c s):=⟨At.nil _ _ _ _,Nat.le_refl _⟩
theorem zkh {k:Int} {O U N F:List Value} (h:MeOk O U N F):(meC k O U N F).size=53∧(meC k O U N F).all (·.oneCell')=true:=⟨zfs h,ziZ h⟩
theorem zgF (k:Int):(zMe k).size=53∧(zMe k).all (·.oneCell')=true:=zkh zcI
theorem zg9 {w w':World} {k:Int} {C:Array Value} {o:Int} {y:NoP} {me:Array Value} (hb:Below w.heap.size w w') (hm:me.size=53∧me.all (·.oneCell')=true) (hy:NoAt w' (w.heap.size+3) w'.heap.size y) (h4:k=4→me=zMe 4∧o=0) (h2:y.dn≤2) :
  BRes k w (.returned (.tuple #[.agg (if o=3 then zMe 0 else me),.int .i64 o,.agg (noC y)])) w':=by
 refine ⟨_,o,y,rfl,hb,?_,?_,⟨hy.row.more (by omega) (Nat.le_refl _),hy.c⟩,fun e=>?_,h2⟩
 ·split
  ·exact (zgF 0).1
  ·exact hm.1
 ·split
  ·exact (zgF 0).2
  ·exact hm.2
 ·obtain ⟨h5,h6⟩:=h4 e
  rw [h6,if_neg (by decide)]
  exact ⟨h5,rfl⟩
theorem zvP (w:World) (lo hi:Nat) (A:Option Addr) (n c:Nat) (b:List UInt8) (h:At w lo hi A n b) (hh:hi≤w.heap.size) (hn:n≤4077) (hN:za0 w) (hK:zcZ w) (k:Int) :
  Calls Tryz.prog 11 #[.int .i64 k,.slice A n c] w (BRes k w):=by
 by_cases h1:k=1
 ·subst h1
  refine (ztL w lo hi A n c b h hh (by omega)).mono ?_
  rintro e w' ⟨C,o,y,rfl,⟨z,rfl,_,hq,h4,h5⟩,hb⟩
  have hy2:y.dn≤2:=by
   split at hq
   ·have h6:=h5.row.len
    rw [hq.2.2.2] at h6
    rw [← h6]
    unfold zts
    split <;> simp
   ·rw [hq.2]
    exact Nat.zero_le _
  exact zg9 (C:=opC z) hb (zkh (zk4 (by simpa using zeq h4.ib) rfl rfl rfl (zhb (zkX z)) zfH zfI zfJ)) h5 (fun e=>by cases e) hy2
 by_cases h2:k=2
 ·subst h2
  refine (zvO w lo hi A n c b h hh (by omega) hN hK).mono ?_
  rintro e w' ⟨C,o,y,rfl,⟨U,nc,ns,rfl,rfl,hu⟩,hb⟩
  exact zg9 (C:=updC U) hb (zkh (zk4 rfl (by simpa using zdB hu.ob) rfl rfl zgE (zhU U) zfI zfJ)) (zmt _ _ _ _ _) (fun e=>by cases e) (Nat.zero_le _)
 by_cases h3:k=3
 ·subst h3
  refine (ztM w lo hi A n c b h hh (by omega)).mono ?_
  rintro e w' ⟨C,o,y,rfl,⟨x,rfl,hq,hx⟩,hb⟩
  have hy:y=no0 0 0∨y=no0 1 2:=by
   split at hq
   ·exact .inl hq.2.1
   ·exact .inr hq.2.2
  refine zg9 (C:=noC x) hb (zkh (zk4 rfl rfl rfl rfl zgE zfH (zhb (znQ x)) zfJ)) ?_ (fun e=>by cases e) ?_
  ·rcases hy with rfl | rfl <;> exact zmt _ _ _ _ _
  ·rcases hy with rfl | rfl <;> exact Nat.zero_le _
 by_cases h4:k=4
 ·subst h4
  refine (zq3 w (.slice A n c)).mono ?_
  rintro e w' ⟨C,o,y,rfl,⟨rfl,rfl⟩,hb⟩
  exact zg9 (C:=C) hb (zkh zcI) (zmt _ _ _ _ _) (fun _=>⟨rfl,rfl⟩) (Nat.zero_le _)
 by_cases h5:k=5
 ·subst h5
  refine (zm1 w lo hi A n c b h hh (by omega)).mono ?_
  rintro e w' ⟨C,o,y,rfl,⟨rfl,ho,rfl⟩,hb⟩
  exact zg9 (C:=famC (zhN b)) hb (zkh (zk4 rfl rfl rfl rfl zgE zfH zfI (zhb (zlb _)))) (zmt _ _ _ _ _) (fun e=>by cases e) (Nat.zero_le _)
 ·refine (ztN w k (.slice A n c) (by omega)).mono ?_
  rintro e w' ⟨C,o,y,rfl,⟨rfl,rfl⟩,hb⟩
  exact zg9 (C:=C) (me:=zMe 0) hb (zgF 0) (zmt _ _ _ _ _) (fun e=>absurd e h4) (Nat.zero_le _)
end
end Go.Proofs.YtjindligkhdddaaGreatDoor
